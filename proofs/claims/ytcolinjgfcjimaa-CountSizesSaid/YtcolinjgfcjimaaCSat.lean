/- The contract of Sat. -/
import Derived.Test.YtcolinjgfcjimaaCLists
namespace Go.Proofs.Ytcolinjgfcjimaa
open Go.RowKit
attribute [local go_sem ↓] Go.wp_at_zero Go.wp_at_succ

/-- Is n had, and above all variables? -/
def Below12 (L : List Nd) (f n : Int) : Prop := (0 ≤ n ∧ n ≤ 12) ∧ hasP L.length f = true ∧ ∀ r, Reach L f r → r < 0 ∨ varP L r < n
def RetSat (L : List Nd) (f val n : Int) (w : World) (e : Ending) (w' : World) : Prop := ∃ x : Int, e = .returned (.int .i64 x) ∧ (Below12 L f n → x = satN L n.toNat val f) ∧ (¬ Below12 L f n → x = 0) ∧ Below w.heap.size w w'
theorem two_at {W W1 : World} {x y : Value} {t : TypeId} (hb : Below ((W.alloc (.cells #[x] t)).alloc (.cells #[y] t)).heap.size ((W.alloc (.cells #[x] t)).alloc (.cells #[y] t)) W1) : W1.cell? ⟨W.heap.size, 0, none⟩ = some x ∧ W1.cell? ⟨W.heap.size + 1, 0, none⟩ = some y :=
  ⟨(((Blk.new W t #[x]).up (.cells #[y] t)).below hb (by simp; omega)).cell 0, ((Blk.new_ (World.size_alloc W (.cells #[x] t)) t #[y]).below hb (by simp)).cell 0⟩
section
variable {W : World} {own : Nat → Prop} {p lim : Nat} {L : List Nd} {f : Int}
set_option maxRecDepth 100000 in
theorem sat_any (h : Arena W own p lim L) (val n : Int) : Calls Try.prog 14 #[.pointer (some ⟨p, 0, none⟩), .int .i64 f, .int .i64 val, .int .i64 n] W (RetSat L f val n W) := by
  have hb := ((Below.refl W.heap.size W).alloc (Nat.le_refl _) (.cells #[.int .i64 val] 3)).alloc (by simp) (.cells #[.int .i64 n] 3)
  have hc := two_at (Below.refl ((W.alloc (.cells #[.int .i64 val] 3)).alloc (.cells #[.int .i64 n] 3)).heap.size ((W.alloc (.cells #[.int .i64 val] 3)).alloc (.cells #[.int .i64 n] 3)))
  obtain ⟨W2, hW2⟩ : ∃ W2, (W.alloc (.cells #[.int .i64 val] 3)).alloc (.cells #[.int .i64 n] 3) = W2 := ⟨_, rfl⟩
  have hA2 : Arena W2 own p lim L := by rw [← hW2]; exact h.below hb
  rw [hW2] at hb hc
  obtain ⟨c0, c1⟩ := hc
  have hs : W.heap.size + 2 ≤ W2.heap.size := by rw [← hW2]; simp
  have HB := Lib.hid hb
  have HA := Lib.hid hA2
  clear h hb hA2
  by_cases h0 : n < 0
  · have hd : decide (n < 0) = true := decide_eq_true h0
    go_enter Try.func14, Try.ntmps14
    go_wp2_with fail
    go_ret
    exact ⟨0, rfl, fun h => absurd h.1.1 (by omega), fun _ => rfl, HB.out⟩
  · have hd : decide (n < 0) = false := decide_eq_false h0
    by_cases h1 : 12 < n
    · have hd1 : decide (12 < n) = true := decide_eq_true h1
      go_enter Try.func14, Try.ntmps14
      go_wp2_with fail
      go_ret
      exact ⟨0, rfl, fun h => absurd h.1.2 (by omega), fun _ => rfl, HB.out⟩
    · have hd1 : decide (12 < n) = false := decide_eq_false h1
      have HW := Lib.hid (within_any (f := f) HA.out n)
      obtain ⟨m, rfl⟩ : ∃ m : Nat, n = (m : Int) := ⟨n.toNat, by omega⟩
      have HK : Hid (∀ w, Below W2.heap.size W2 w → Calls Try.prog 32 #[.pointer (some ⟨p, 0, none⟩), .int .i64 f, .func (.func 37) #[] #[.pointer (some ⟨W.heap.size, 0, none⟩), .pointer (some ⟨W.heap.size + 1, 0, none⟩)], .func (.func 38) #[] #[]] w (RetX (satN L m val f) w)) := Lib.hid fun w hw =>
        sat_reckon (HA.out.below hw) val (by omega) fun W1 hw1 => ⟨((hw.trans (hw1.mono hw.size)).cell (p := ⟨W.heap.size, 0, none⟩) (by show W.heap.size < _; omega)).trans c0, ((hw.trans (hw1.mono hw.size)).cell (p := ⟨W.heap.size + 1, 0, none⟩) (by show W.heap.size + 1 < _; omega)).trans c1⟩
      have HN : Hid ((0 : Int) ≤ m ∧ (m : Int) ≤ 12) := Lib.hid (by omega)
      obtain ⟨x, hx⟩ : ∃ x, satN L m val f = x := ⟨_, rfl⟩
      have HX := Lib.hid hx
      rw [hx] at HK
      clear hx h0 h1
      go_enter Try.func14, Try.ntmps14
      go_wp2_with (first
        | (go_at_call 36; ((with_reducible refine HW.out.mono ?_); rintro e w3 ⟨b, rfl, hb3, h3⟩); have H3 := Lib.hid h3; have HB3 := Lib.hid hb3; clear h3 hb3; cases b)
        | (go_at_call 32; ((with_reducible refine (HK.out _ H3.out).mono ?_); rintro e w4 ⟨rfl, h4⟩); have H4 := Lib.hid (H3.out.trans (h4.mono H3.out.size)); clear h4))
      · go_ret
        exact ⟨0, rfl, fun h => absurd (HB3.out.2 h.2) (by decide), fun _ => rfl, HB.out.trans (H3.out.mono HB.out.size)⟩
      · go_ret
        exact ⟨x, rfl, fun _ => by rw [Int.toNat_natCast, HX.out], fun h => absurd ⟨HN.out, HB3.out.1 trivial⟩ h, HB.out.trans (H4.out.mono HB.out.size)⟩
end
end Go.Proofs.Ytcolinjgfcjimaa
