/- The walk of 'alive'. -/
import Derived.Test.YtdgjbbcalffbcaaBAlive
namespace Go.Proofs.Ytdgjbbcalffbcaa
open Go.RowKit
attribute [local go_sem ↓] Go.wp_at_zero Go.wp_at_succ

theorem new_big (w : World) : Calls Try.prog 10 #[.int .i64 65536, .int .i64 8] w fun e w' => ∃ m, e = .returned (.pointer (some ⟨m, 0, none⟩)) ∧ Liv w m 65536 [] w' := New_liv 65536 8 (by omega) w
theorem new_zero (w : World) : Calls Try.prog 10 #[.int .i64 0, .int .i64 8] w fun e w' => ∃ m, e = .returned (.pointer (some ⟨m, 0, none⟩)) ∧ Liv w m 0 [] w' := New_liv 0 8 (by omega) w
section
variable {w W : World} {m : Nat} {L L' : List Nd} {x y z : Int}
def X0 (b : Nat) : Bool := b.testBit 0
theorem al_var (h : Liv w m 65536 [] W) : Calls Try.prog 28 #[.pointer (some ⟨m, 0, none⟩), .int .i64 0] W (RetSmall X0 w m 65536 []) :=
  liv_small h (by simp) fun own hM => Var_good hM (by omega) (v := 0) (by omega)
theorem al_not (h : Liv w m 65536 L W) (hl : L.length ≤ 4095) (hx : Tells L X0 x) : Calls Try.prog 20 #[.pointer (some ⟨m, 0, none⟩), .int .i64 x] W (RetSmall (fun b => !X0 b) w m 65536 L) :=
  liv_small (u := 0) h (by omega) fun own hM => (Not_good hM (by omega) hx.1 0).mono fun e w' hr => by
    rw [show (fun b => !X0 b) = fun b => !fn L x b from funext fun b => by rw [hx.2]]
    exact hr
theorem al_and (h : Liv w m 65536 L W) (hl : L.length ≤ 8190) (hx : Tells L X0 x) (hy : Tells L (fun b => !X0 b) y) : Calls Try.prog 21 #[.pointer (some ⟨m, 0, none⟩), .int .i64 x, .int .i64 y] W fun e w' => ∃ L', e = .returned (.tuple #[.int .i64 (-1), .nilIface]) ∧ Liv w m 65536 L' w' ∧ (∃ M, L' = L ++ M) ∧ L'.length ≤ L.length + 4095 := by
  refine (liv_small (u := 0) h (by omega) fun own hM => And_good hM (by omega) hx.1 hy.1 0).mono ?_
  rintro e w' ⟨L', r, rfl, h', hm, hl', ht⟩
  have : r = -1 := tells_one h'.right h'.bools (F := fun _ => false) ⟨ht.1, fun b => (ht.2 b).trans (by show o2 (-1) (fn L x b) (fn L y b) = false; rw [hx.2, hy.2]; show o2 (-1) (X0 b) (!X0 b) = false; cases X0 b <;> rfl)⟩ ⟨by unfold InB; omega, fun b => fn_false _ b⟩
  subst this
  exact ⟨L', rfl, h', hm, hl'⟩
theorem al_exists (h : Liv w m 65536 L W) (hl : L.length ≤ 12285) (hx : Tells L X0 x) : Calls Try.prog 29 #[.pointer (some ⟨m, 0, none⟩), .int .i64 x, .int .i64 0] W fun e w' => ∃ L', e = .returned (.tuple #[.int .i64 (-2), .nilIface]) ∧ Liv w m 65536 L' w' ∧ (∃ M, L' = L ++ M) ∧ L'.length ≤ L.length + 4095 := by
  refine (liv_small (u := 0) h (by omega) fun own hM => Exists_good hM (by omega) (v := 0) hx.1 (by omega) 0).mono ?_
  rintro e w' ⟨L', r, rfl, h', hm, hl', ht⟩
  have : r = -2 := tells_one h'.right h'.bools (F := fun _ => true) ⟨ht.1, fun b => (ht.2 b).trans (by show (fn L x (setBit b 0 false) || fn L x (setBit b 0 true)) = true; rw [hx.2, hx.2]; unfold X0; rw [setBit_at, setBit_at]; rfl)⟩ ⟨by unfold InB; omega, fun b => fn_true _ b⟩
  subst this
  exact ⟨L', rfl, h', hm, hl'⟩
theorem al_twelve (h : Liv w m 65536 L W) : Calls Try.prog 28 #[.pointer (some ⟨m, 0, none⟩), .int .i64 12] W (RetArgL w m 65536 L) :=
  liv_arg h fun own hM => Var_bad hM (by omega) (by omega)
theorem al_eval1 (h : Liv w m 65536 L W) (hx : Tells L X0 x) : Calls Try.prog 17 #[.pointer (some ⟨m, 0, none⟩), .int .i64 x, .int .u64 1] W fun e w' => e = .returned (.bool true) ∧ Liv w m 65536 L w' := by
  have := liv_eval h x (b := 1) (by omega)
  rw [hx.2] at this
  exact this
theorem al_eval2 (h : Liv w m 65536 L W) (hx : Tells L X0 x) : Calls Try.prog 17 #[.pointer (some ⟨m, 0, none⟩), .int .i64 x, .int .u64 2] W fun e w' => e = .returned (.bool false) ∧ Liv w m 65536 L w' := by
  have := liv_eval h x (b := 2) (by omega)
  rw [hx.2] at this
  exact this
theorem al_support (h : Liv w m 65536 L W) (hy : Tells L (fun b => !X0 b) y) : Calls Try.prog 18 #[.pointer (some ⟨m, 0, none⟩), .int .i64 y] W fun e w' => e = .returned (.int .u64 1) ∧ Liv w m 65536 L w' := by
  have := liv_support h y
  have hs : suppP L y = 1 := by
    apply Nat.eq_of_testBit_eq
    intro v
    have ht := supp_tells h.right h.bools hy v
    rw [Bool.eq_iff_iff, ht]
    unfold X0
    by_cases hv : v = 0
    · subst hv
      refine ⟨fun _ => rfl, fun _ => ⟨0, by omega, ?_⟩⟩
      rw [setBit_at, setBit_at]
      simp
    · constructor
      · rintro ⟨b, -, hd⟩
        rw [setBit_other b false (fun e => hv e.symm), setBit_other b true (fun e => hv e.symm)] at hd
        exact absurd rfl hd
      · intro h1
        exfalso
        rw [show (1 : Nat) = 2 ^ 0 from rfl, Nat.testBit_two_pow] at h1
        simp at h1
        omega
  rw [hs] at this
  exact this
theorem al_is (h : Liv w m 65536 L W) (hx : InB L.length x) : Calls Try.prog 27 #[.pointer (some ⟨m, 0, none⟩), .int .i64 x] W fun e w' => e = .returned (.bool true) ∧ Liv w m 65536 L w' := by
  have := liv_is h x
  rw [decide_eq_true hx] at this
  exact this
theorem al_isnt (h : Liv w m 65536 L W) : Calls Try.prog 27 #[.pointer (some ⟨m, 0, none⟩), .int .i64 1073741824] W fun e w' => e = .returned (.bool false) ∧ Liv w m 65536 L w' := by
  have := liv_is h 1073741824
  rw [decide_eq_false (by have := h.fits; unfold InB; omega)] at this
  exact this
end
theorem tells_grow {L L' : List Nd} {F : Nat → Bool} {x : Int} (hR : RightL L) (h : Tells L F x) (hm : ∃ M, L' = L ++ M) : Tells L' F x := by
  obtain ⟨M, rfl⟩ := hm
  exact tells_more hR M h
set_option maxRecDepth 100000 in
set_option maxHeartbeats 3200000 in
theorem alive_any (w : World) : Calls Try.prog 11 #[] w fun e w' => e = .returned (.bool true) ∧ Below w.heap.size w w' := by
  have mn := m_nil
  have an := a_nil
  go_enter Try.func11, Try.ntmps11
  go_wp2_with (first
    | (go_at_call 10; ((with_reducible refine (new_big _).mono ?_); rintro e w1 ⟨m, rfl, h1⟩); have H1 := Lib.hid h1; clear h1)
    | (go_at_call 10; ((with_reducible refine (new_zero _).mono ?_); rintro e w7 ⟨m2, rfl, h7⟩); have H7 := Lib.hid h7; have HM7 := Lib.hid (H6.out.below h7.low); clear h7)
    | (go_at_call 15; (obtain ⟨p, hp⟩ := liv_arena H1.out); ((with_reducible refine hp.mono ?_); rintro e w0 ⟨rfl, rfl⟩))
    | (go_at_call 28; ((with_reducible refine (al_var H1.out).mono ?_); rintro e w2 ⟨L2, x2, rfl, h2, g2, l2, t2⟩); have H2 := Lib.hid h2; have HL2 : Hid (L2.length ≤ 4095) := Lib.hid (by simpa using l2); have T2 := Lib.hid t2; clear h2 g2 l2 t2)
    | (go_at_call 20; ((with_reducible refine (al_not H2.out HL2.out T2.out).mono ?_); rintro e w3 ⟨L3, x3, rfl, h3, g3, l3, t3⟩); have H3 := Lib.hid h3; have HL3 : Hid (L3.length ≤ 8190) := Lib.hid (by have := HL2.out; omega); have T3 := Lib.hid t3; have T23 := Lib.hid (tells_grow H2.out.right T2.out g3); clear h3 g3 l3 t3)
    | (go_at_call 21; ((with_reducible refine (al_and H3.out HL3.out T23.out T3.out).mono ?_); rintro e w4 ⟨L4, rfl, h4, g4, l4⟩); have H4 := Lib.hid h4; have HL4 : Hid (L4.length ≤ 12285) := Lib.hid (by have := HL3.out; omega); have T24 := Lib.hid (tells_grow H3.out.right T23.out g4); have T34 := Lib.hid (tells_grow H3.out.right T3.out g4); clear h4 g4 l4)
    | (go_at_call 29; ((with_reducible refine (al_exists H4.out HL4.out T24.out).mono ?_); rintro e w5 ⟨L5, rfl, h5, g5, l5⟩); have H5 := Lib.hid h5; have T25 := Lib.hid (tells_grow H4.out.right T24.out g5); have T35 := Lib.hid (tells_grow H4.out.right T34.out g5); have I25 := Lib.hid (T25.out.1); clear h5 g5 l5)
    | (go_at_call 28; ((with_reducible refine (al_twelve H5.out).mono ?_); rintro e w6 ⟨rfl, h6⟩); have H6 := Lib.hid h6; clear h6)
    | (go_at_call 28; ((with_reducible refine (small_full H7.out).mono ?_); rintro e w8 ⟨b8, rfl, c8, h8⟩); have C8 := Lib.hid c8; have HM8 := Lib.hid (H6.out.below h8.low); clear c8 h8)
    | (go_at_call 26; ((with_reducible refine (is_self 1 _).mono ?_); rintro e w9 ⟨rfl, rfl⟩))
    | (go_at_call 26; ((with_reducible refine (is_fault _ 50 _ C8.out).mono ?_); rintro e w9 ⟨rfl, rfl⟩))
    | (go_at_call 17; ((with_reducible refine (al_eval1 HM8.out T25.out).mono ?_); rintro e w10 ⟨rfl, h10⟩); have H10 := Lib.hid h10; clear h10)
    | (go_at_call 17; ((with_reducible refine (al_eval2 H10.out T25.out).mono ?_); rintro e w11 ⟨rfl, h11⟩); have H11 := Lib.hid h11; clear h11)
    | (go_at_call 18; ((with_reducible refine (al_support H11.out T35.out).mono ?_); rintro e w12 ⟨rfl, h12⟩); have H12 := Lib.hid h12; clear h12)
    | (go_at_call 27; ((with_reducible refine (al_is H12.out I25.out).mono ?_); rintro e w13 ⟨rfl, h13⟩); have H13 := Lib.hid h13; clear h13)
    | (go_at_call 27; ((with_reducible refine (al_isnt H13.out).mono ?_); rintro e w14 ⟨rfl, h14⟩); have H14 := Lib.hid h14; clear h14))
  go_ret
  exact ⟨rfl, H14.out.low⟩
end Go.Proofs.Ytdgjbbcalffbcaa
