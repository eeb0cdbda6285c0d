/- The walk of BddOdd. -/
import Derived.Test.YtdgjbbcalffbcaaBAliveWalk
namespace Go.Proofs.Ytdgjbbcalffbcaa
open Go.RowKit
attribute [local go_sem ↓] Go.wp_at_zero Go.wp_at_succ

section
variable {w W : World} {m lim : Nat} {f v : Int}
theorem odd_not (hf : ¬ InB 0 f) (h : Liv w m lim [] W) : Calls Try.prog 20 #[.pointer (some ⟨m, 0, none⟩), .int .i64 f] W (RetArgL w m lim []) := liv_arg h fun _ hM => Not_bad hM hf
theorem odd_and (hf : ¬ InB 0 f) (h : Liv w m lim [] W) : Calls Try.prog 21 #[.pointer (some ⟨m, 0, none⟩), .int .i64 (-2), .int .i64 f] W (RetArgL w m lim []) := liv_arg h fun _ hM => And_bad hM fun g => hf g.2
theorem odd_xor (hf : ¬ InB 0 f) (h : Liv w m lim [] W) : Calls Try.prog 25 #[.pointer (some ⟨m, 0, none⟩), .int .i64 f, .int .i64 (-2)] W (RetArgL w m lim []) := liv_arg h fun _ hM => Xor_bad hM fun g => hf g.1
theorem odd_ite (hf : ¬ InB 0 f) (h : Liv w m lim [] W) : Calls Try.prog 22 #[.pointer (some ⟨m, 0, none⟩), .int .i64 (-2), .int .i64 (-2), .int .i64 f] W (RetArgL w m lim []) := liv_arg h fun _ hM => Ite_bad hM fun g => hf g.2.2
theorem odd_restrict (hf : ¬ InB 0 f) (h : Liv w m lim [] W) : Calls Try.prog 23 #[.pointer (some ⟨m, 0, none⟩), .int .i64 f, .int .i64 0, .bool true] W (RetArgL w m lim []) := liv_arg h fun _ hM => Restrict_bad hM fun g => hf g.1
theorem odd_compose (hf : ¬ InB 0 f) (h : Liv w m lim [] W) : Calls Try.prog 24 #[.pointer (some ⟨m, 0, none⟩), .int .i64 f, .int .i64 0, .int .i64 (-2)] W (RetArgL w m lim []) := liv_arg h fun _ hM => Compose_bad hM fun g => hf g.1
theorem odd_false (hv : ¬ (0 ≤ v ∧ v < 12)) (h : Liv w m lim [] W) : Calls Try.prog 23 #[.pointer (some ⟨m, 0, none⟩), .int .i64 (-2), .int .i64 v, .bool true] W (RetArgL w m lim []) := liv_arg h fun _ hM => Restrict_bad hM fun g => hv g.2
theorem odd_true {v : Nat} (hv : v < 12) (h : Liv w m lim [] W) : Calls Try.prog 23 #[.pointer (some ⟨m, 0, none⟩), .int .i64 (-2), .int .i64 v, .bool true] W fun e w' => ∃ x : Int, e = .returned (.tuple #[.int .i64 x, .nilIface]) ∧ Liv w m lim [] w' := by
  obtain ⟨own, hM, hw, hb⟩ := h
  refine (Restrict_true hM hv).mono ?_
  rintro e w' ⟨own', x, rfl, h', q'⟩
  exact ⟨x, rfl, liv_went hw hb q' h'⟩
theorem odd_is (hf : ¬ InB 0 f) (h : Liv w m lim [] W) : Calls Try.prog 27 #[.pointer (some ⟨m, 0, none⟩), .int .i64 f] W fun e w' => e = .returned (.bool false) ∧ Liv w m lim [] w' := by
  have := liv_is h f
  rw [decide_eq_false (show ¬ InB ([] : List Nd).length f from hf)] at this
  exact this
theorem odd_support (_hf : ¬ InB 0 f) (h : Liv w m lim [] W) : Calls Try.prog 18 #[.pointer (some ⟨m, 0, none⟩), .int .i64 f] W fun e w' => e = .returned (.int .u64 0) ∧ Liv w m lim [] w' := by
  have := liv_support h f
  rw [supp_out (by rintro ⟨h1, h2⟩; simp at h2; omega)] at this
  exact this
end
set_option maxRecDepth 100000 in
set_option maxHeartbeats 6400000 in
theorem odd_walk (f v limit : Int) (hl : -9223372036854775808 ≤ limit ∧ limit ≤ 9223372036854775807) (w : World) :
    Calls Try.prog 8 #[.int .i64 f, .int .i64 v, .int .i64 limit] w fun e w' => e = .returned (.bool true) ∧ Below w.heap.size w w' := by
  have HN := Lib.hid (New_liv limit 4 hl)
  have mn := m_nil
  have mnn := m_nnil
  clear hl
  by_cases h1 : f = -1 ∨ f = -2
  · have q0 : (f == -1 || f == -2) = true := by rcases h1 with rfl | rfl <;> rfl
    rcases h1 with rfl | rfl
    all_goals
      go_enter Try.func8, Try.ntmps8
      go_wp2_with (first
        | (go_at_call 10; ((with_reducible refine (HN.out w).mono ?_); rintro e w1 ⟨m, rfl, h1⟩); have H1 := Lib.hid h1; clear h1)
        | (go_at_call 11; ((with_reducible refine (alive_any _).mono ?_); rintro e w9 ⟨rfl, hb9⟩); have H9 := Lib.hid (H1.out.below hb9); clear hb9))
      go_ret
      exact ⟨rfl, H9.out.low⟩
  have hf : ¬ InB 0 f := by unfold InB; omega
  have q1 : (f == -1) = false := by simp; omega
  have q2 : (f == -2) = false := by simp; omega
  have HF := Lib.hid hf
  clear hf h1
  by_cases hv : 0 ≤ v ∧ v < 12
  · obtain ⟨n, rfl⟩ : ∃ n : Nat, v = (n : Int) := ⟨v.toNat, by omega⟩
    have HV : Hid (n < 12) := Lib.hid (by omega)
    have e0 : decide ((n : Int) < 0) = false := decide_eq_false (by omega)
    have e1 : decide (12 ≤ (n : Int)) = false := decide_eq_false (by omega)
    clear hv
    go_enter Try.func8, Try.ntmps8
    go_wp2_with (first
      | (go_at_call 10; ((with_reducible refine (HN.out w).mono ?_); rintro e w1 ⟨m, rfl, h1⟩); have H1 := Lib.hid h1; clear h1)
      | (go_at_call 20; ((with_reducible refine (odd_not HF.out H1.out).mono ?_); rintro e w2 ⟨rfl, h2⟩); have H2 := Lib.hid h2; clear h2)
      | (go_at_call 21; ((with_reducible refine (odd_and HF.out H2.out).mono ?_); rintro e w3 ⟨rfl, h3⟩); have H3 := Lib.hid h3; clear h3)
      | (go_at_call 22; ((with_reducible refine (odd_ite HF.out H3.out).mono ?_); rintro e w4 ⟨rfl, h4⟩); have H4 := Lib.hid h4; clear h4)
      | (go_at_call 23; ((with_reducible refine (odd_restrict HF.out H4.out).mono ?_); rintro e w5 ⟨rfl, h5⟩); have H5 := Lib.hid h5; clear h5)
      | (go_at_call 24; ((with_reducible refine (odd_compose HF.out H5.out).mono ?_); rintro e w6 ⟨rfl, h6⟩); have H6 := Lib.hid h6; clear h6)
      | (go_at_call 23; ((with_reducible refine (odd_true HV.out H6.out).mono ?_); rintro e w7 ⟨x7, rfl, h7⟩); have H7 := Lib.hid h7; clear h7)
      | (go_at_call 25; ((with_reducible refine (odd_xor HF.out H7.out).mono ?_); rintro e w8 ⟨rfl, h8⟩); have H8 := Lib.hid h8; clear h8)
      | (go_at_call 11; ((with_reducible refine (alive_any _).mono ?_); rintro e w9 ⟨rfl, hb9⟩); have H9 := Lib.hid (H8.out.below hb9); clear hb9)
      | (go_at_call 26; ((with_reducible refine (is_self 1 _).mono ?_); rintro e w10 ⟨rfl, rfl⟩))
      | (go_at_call 26; ((with_reducible refine (is_nil 1 _).mono ?_); rintro e w10 ⟨rfl, rfl⟩))
      | (go_at_call 27; ((with_reducible refine (odd_is HF.out H9.out).mono ?_); rintro e w11 ⟨rfl, h11⟩); have H11 := Lib.hid h11; clear h11)
      | (go_at_call 18; ((with_reducible refine (odd_support HF.out H11.out).mono ?_); rintro e w12 ⟨rfl, h12⟩); have H12 := Lib.hid h12; clear h12))
    go_ret
    exact ⟨rfl, H12.out.low⟩
  · have HV := Lib.hid hv
    rcases (show decide (v < 0) = true ∨ (decide (v < 0) = false ∧ decide (12 ≤ v) = true) by simp; omega) with hv' | ⟨hv', hw'⟩
    all_goals
      clear hv
      go_enter Try.func8, Try.ntmps8
      go_wp2_with (first
        | (go_at_call 10; ((with_reducible refine (HN.out w).mono ?_); rintro e w1 ⟨m, rfl, h1⟩); have H1 := Lib.hid h1; clear h1)
        | (go_at_call 20; ((with_reducible refine (odd_not HF.out H1.out).mono ?_); rintro e w2 ⟨rfl, h2⟩); have H2 := Lib.hid h2; clear h2)
        | (go_at_call 21; ((with_reducible refine (odd_and HF.out H2.out).mono ?_); rintro e w3 ⟨rfl, h3⟩); have H3 := Lib.hid h3; clear h3)
        | (go_at_call 22; ((with_reducible refine (odd_ite HF.out H3.out).mono ?_); rintro e w4 ⟨rfl, h4⟩); have H4 := Lib.hid h4; clear h4)
        | (go_at_call 23; ((with_reducible refine (odd_restrict HF.out H4.out).mono ?_); rintro e w5 ⟨rfl, h5⟩); have H5 := Lib.hid h5; clear h5)
        | (go_at_call 24; ((with_reducible refine (odd_compose HF.out H5.out).mono ?_); rintro e w6 ⟨rfl, h6⟩); have H6 := Lib.hid h6; clear h6)
        | (go_at_call 23; ((with_reducible refine (odd_false HV.out H6.out).mono ?_); rintro e w7 ⟨rfl, h7⟩); have H7 := Lib.hid h7; clear h7)
        | (go_at_call 25; ((with_reducible refine (odd_xor HF.out H7.out).mono ?_); rintro e w8 ⟨rfl, h8⟩); have H8 := Lib.hid h8; clear h8)
        | (go_at_call 11; ((with_reducible refine (alive_any _).mono ?_); rintro e w9 ⟨rfl, hb9⟩); have H9 := Lib.hid (H8.out.below hb9); clear hb9)
        | (go_at_call 26; ((with_reducible refine (is_self 1 _).mono ?_); rintro e w10 ⟨rfl, rfl⟩))
        | (go_at_call 26; ((with_reducible refine (is_nil 1 _).mono ?_); rintro e w10 ⟨rfl, rfl⟩))
        | (go_at_call 27; ((with_reducible refine (odd_is HF.out H9.out).mono ?_); rintro e w11 ⟨rfl, h11⟩); have H11 := Lib.hid h11; clear h11)
        | (go_at_call 18; ((with_reducible refine (odd_support HF.out H11.out).mono ?_); rintro e w12 ⟨rfl, h12⟩); have H12 := Lib.hid h12; clear h12))
      go_ret
      exact ⟨rfl, H12.out.low⟩
theorem odd_main (f v limit : Int) (w : World) (_hf : -9223372036854775808 ≤ f ∧ f ≤ 9223372036854775807) (_hv : -9223372036854775808 ≤ v ∧ v ≤ 9223372036854775807) (hl : -9223372036854775808 ≤ limit ∧ limit ≤ 9223372036854775807) :
    Calls Try.prog 8 #[.int .i64 f, .int .i64 v, .int .i64 limit] w fun e w' => e = .returned (.bool true) ∧ Below w.heap.size w w' := odd_walk f v limit hl w
end Go.Proofs.Ytdgjbbcalffbcaa
