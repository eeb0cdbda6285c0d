/- The contract of does. -/
import Derived.Test.YtdgjbbcalffbcaaBSays
namespace Go.Proofs.Ytdgjbbcalffbcaa
open Go.RowKit
attribute [local go_sem ↓] Go.wp_at_zero Go.wp_at_succ

/-- A row of refs. -/
def Ints (W : World) (A : Option Addr) (n : Nat) (R : Nat → Int) : Prop := 0 < n → ∃ b off, A = some ⟨b, off, none⟩ ∧ b < W.heap.size ∧ ∀ j, j < n → W.cell? ⟨b, off + j, none⟩ = some (.int .i64 (R j))
theorem Ints.below {W W1 : World} {A : Option Addr} {n : Nat} {R : Nat → Int} (h : Ints W A n R) (hb : Below W.heap.size W W1) : Ints W1 A n R := fun h0 => by
  obtain ⟨b, off, rfl, hlt, hc⟩ := h h0
  exact ⟨b, off, rfl, Nat.lt_of_lt_of_le hlt hb.size, fun j hj => (hb.cell (p := ⟨b, _, none⟩) hlt).trans (hc j hj)⟩
def refAt (R : Nat → Int) (n : Nat) (k : Int) : Int := if 0 ≤ k ∧ k < (n : Int) then R k.toNat else 1073741824
theorem at1_any {w : World} {A : Option Addr} {n c s : Nat} {R : Nat → Int} (hc : w.cell? ⟨s, 0, none⟩ = some (.slice A n c)) (hR : Ints w A n R) (hn : n ≤ 100) (k : Int) : Calls Try.prog 52 #[.int .i64 k, .pointer (some ⟨s, 0, none⟩)] w (RetW (.int .i64 (refAt R n k)) w) := by
  by_cases h : 0 ≤ k ∧ k < (n : Int)
  · obtain ⟨j, rfl⟩ : ∃ j : Nat, k = (j : Int) := ⟨k.toNat, by omega⟩
    have hj : j < n := by omega
    rw [show refAt R n (j : Int) = R j by unfold refAt; rw [if_pos h]; rfl]
    obtain ⟨b, off, rfl, hlt, hcj⟩ := hR (by omega)
    have c0 := hcj j hj
    have e0 : decide ((j : Int) < 0) = false := decide_eq_false (by omega)
    have e1 : decide ((n : Int) ≤ (j : Int)) = false := decide_eq_false (by omega)
    clear hcj hR h
    go_enter Try.func52, Try.ntmps52
    go_wp2_with fail
    go_ret
    exact ⟨rfl, rfl⟩
  · rw [show refAt R n k = 1073741824 from if_neg h]
    rcases (show decide (k < 0) = true ∨ (decide (k < 0) = false ∧ decide ((n : Int) ≤ k) = true) by simp; omega) with e0 | ⟨e0, e1⟩
    all_goals
      clear hR h
      go_enter Try.func52, Try.ntmps52
      go_wp2_with fail
      go_ret
      exact ⟨rfl, rfl⟩
section
variable {W w : World} {own : Nat → Prop} {m lim : Nat} {L : List Nd}
theorem RetPub.from_below {F : Nat → Bool} {u : Int} {e : Ending} {w' : World} (h : RetPub F u own m lim L w e w') (hb : Below W.heap.size W w) : RetPub F u own m lim L W e w' := by
  obtain ⟨own', L', h1, h2, h3⟩ := h
  exact ⟨own', L', h1, (Went.of_below hb own).trans h2, h3⟩
theorem RetPub.fn_eq {F G : Nat → Bool} {u : Int} {e : Ending} {w' : World} (h : RetPub F u own m lim L w e w') (hF : ∀ b, F b = G b) : RetPub G u own m lim L w e w' := by
  have : F = G := funext hF
  rw [← this]; exact h
theorem RetArg.from_below {e : Ending} {w' : World} (h : RetArg own m lim L w e w') (hb : Below W.heap.size W w) : RetArg own m lim L W e w' := by
  obtain ⟨own', h1, h2, h3⟩ := h
  exact ⟨own', h1, h2, (Went.of_below hb own).trans h3⟩
/-- What does tells: of an op that may be; of one that may not. -/
def RetD (n : Nat) (o : Opn) (G : Nat → Bool) (own : Nat → Prop) (m lim : Nat) (L : List Nd) (W : World) (e : Ending) (w' : World) : Prop :=
  ∃ (x : Int) (ev : Value), e = .returned (.tuple #[.int .i64 x, ev]) ∧ ((okP n o ∧ RetPub G o.v own m lim L W (.returned (.tuple #[.int .i64 x, ev])) w') ∨ (¬ okP n o ∧ RetArg own m lim L W (.returned (.tuple #[.int .i64 x, ev])) w'))
theorem d_good {n : Nat} {o : Opn} {G : Nat → Bool} {e : Ending} {w' : World} (ho : okP n o) (h : RetPub G o.v own m lim L w e w') (hb : Below W.heap.size W w) : RetD n o G own m lim L W e w' := by
  have h' := h.from_below hb
  obtain ⟨-, -, -, -, -, x, ev, rfl, -⟩ := h
  exact ⟨x, ev, rfl, .inl ⟨ho, h'⟩⟩
theorem d_bad {n : Nat} {o : Opn} {G : Nat → Bool} {e : Ending} {w' : World} (ho : ¬ okP n o) (h : RetArg own m lim L w e w') (hb : Below W.heap.size W w) : RetD n o G own m lim L W e w' := by
  have h' := h.from_below hb
  obtain ⟨-, rfl, -⟩ := h
  exact ⟨_, _, rfl, .inr ⟨ho, h'⟩⟩
variable {n : Nat} {R : Nat → Int} {F : Nat → Nat → Bool} {v a b c : Int} {yes : Bool}
theorem ref_in (hT : ∀ j, j < n → Tells L (F j) (R j)) (h : InR n a) : Tells L (F a.toNat) (refAt R n a) := by
  unfold InR at h
  rw [show refAt R n a = R a.toNat from if_pos h]
  exact hT _ (by omega)
theorem ref_out (hL : L.length ≤ 65536) (h : ¬ InR n a) : ¬ InB L.length (refAt R n a) := by
  unfold InR at h
  rw [show refAt R n a = 1073741824 from if_neg h]
  unfold InB
  omega
theorem does_0 (hM : Mg W own m lim L) (hl : lim ≤ 65536) (_hT : ∀ j, j < n → Tells L (F j) (R j)) (hb : Below W.heap.size W w) : Calls Try.prog 28 #[.pointer (some ⟨m, 0, none⟩), .int .i64 v] w (RetD n ⟨0, v, a, b, c, yes⟩ (opF ⟨0, v, a, b, c, yes⟩ (F a.toNat) (F b.toNat) (F c.toNat)) own m lim L W) := by
  have hM1 := hM.below hb
  have hL : L.length ≤ 65536 := by have := hM.fits; omega
  by_cases h : 0 ≤ v ∧ v < 12
  · have hv := h
    have hok : okP n ⟨0, v, a, b, c, yes⟩ := by
      refine ⟨by show (0 : Int) ≤ 0 ∧ (0 : Int) ≤ 8; omega, fun i hi => ?_, fun hh => ?_⟩
      · have hi : (i : Int) < 0 := hi
        omega
      · exact hv
    obtain ⟨u, rfl⟩ : ∃ u : Nat, v = (u : Int) := ⟨v.toNat, by omega⟩
    have hu : u < 12 := by omega
    exact (Var_good hM1 hl hu).mono fun e w' hr => d_good hok (hr.fn_eq fun x => rfl) hb
  · have hok : ¬ okP n ⟨0, v, a, b, c, yes⟩ := fun hok => h (hok.2.2 (.inl rfl))
    exact (Var_bad hM1 hl h).mono fun e w' hr => d_bad hok hr hb
theorem does_1 (hM : Mg W own m lim L) (hl : lim ≤ 65536) (hT : ∀ j, j < n → Tells L (F j) (R j)) (hb : Below W.heap.size W w) : Calls Try.prog 20 #[.pointer (some ⟨m, 0, none⟩), .int .i64 (refAt R n a)] w (RetD n ⟨1, v, a, b, c, yes⟩ (opF ⟨1, v, a, b, c, yes⟩ (F a.toNat) (F b.toNat) (F c.toNat)) own m lim L W) := by
  have hM1 := hM.below hb
  have hL : L.length ≤ 65536 := by have := hM.fits; omega
  by_cases h : InR n a
  · have ha := h
    have hok : okP n ⟨1, v, a, b, c, yes⟩ := by
      refine ⟨by show (0 : Int) ≤ 1 ∧ (1 : Int) ≤ 8; omega, fun i hi => ?_, fun hh => ?_⟩
      · have hi : (i : Int) < 1 := hi
        have : i = 0 := by omega
        rcases this with rfl
        · exact ha
      · exfalso; revert hh; show (1 : Int) = 0 ∨ 5 < (1 : Int) → False; omega
    have ta := ref_in hT ha
    exact (Not_good hM1 hl ta.1 v).mono fun e w' hr => d_good hok (hr.fn_eq fun x => by rw [ta.2]; rfl) hb
  · have hok : ¬ okP n ⟨1, v, a, b, c, yes⟩ := fun hok => h (hok.2.1 0 (by show (0 : Int) < 1; omega))
    exact (Not_bad hM1 (fun g => h (Classical.byContradiction fun hn => ref_out (R := R) hL hn g))).mono fun e w' hr => d_bad hok hr hb
theorem does_2 (hM : Mg W own m lim L) (hl : lim ≤ 65536) (hT : ∀ j, j < n → Tells L (F j) (R j)) (hb : Below W.heap.size W w) : Calls Try.prog 21 #[.pointer (some ⟨m, 0, none⟩), .int .i64 (refAt R n a), .int .i64 (refAt R n b)] w (RetD n ⟨2, v, a, b, c, yes⟩ (opF ⟨2, v, a, b, c, yes⟩ (F a.toNat) (F b.toNat) (F c.toNat)) own m lim L W) := by
  have hM1 := hM.below hb
  have hL : L.length ≤ 65536 := by have := hM.fits; omega
  by_cases h : InR n a ∧ InR n b
  · obtain ⟨ha, hb2⟩ := h
    have hok : okP n ⟨2, v, a, b, c, yes⟩ := by
      refine ⟨by show (0 : Int) ≤ 2 ∧ (2 : Int) ≤ 8; omega, fun i hi => ?_, fun hh => ?_⟩
      · have hi : (i : Int) < 2 := hi
        have : i = 0 ∨ i = 1 := by omega
        rcases this with rfl | rfl
        · exact ha
        · exact hb2
      · exfalso; revert hh; show (2 : Int) = 0 ∨ 5 < (2 : Int) → False; omega
    have ta := ref_in hT ha
    have tb := ref_in hT hb2
    exact (And_good hM1 hl ta.1 tb.1 v).mono fun e w' hr => d_good hok (hr.fn_eq fun x => by rw [ta.2, tb.2]; rfl) hb
  · have hok : ¬ okP n ⟨2, v, a, b, c, yes⟩ := fun hok => h ⟨hok.2.1 0 (by show (0 : Int) < 2; omega), hok.2.1 1 (by show (1 : Int) < 2; omega)⟩
    exact (And_bad hM1 (fun g => h ⟨Classical.byContradiction fun hn => ref_out (R := R) hL hn g.1, Classical.byContradiction fun hn => ref_out (R := R) hL hn g.2⟩)).mono fun e w' hr => d_bad hok hr hb
theorem does_3 (hM : Mg W own m lim L) (hl : lim ≤ 65536) (hT : ∀ j, j < n → Tells L (F j) (R j)) (hb : Below W.heap.size W w) : Calls Try.prog 53 #[.pointer (some ⟨m, 0, none⟩), .int .i64 (refAt R n a), .int .i64 (refAt R n b)] w (RetD n ⟨3, v, a, b, c, yes⟩ (opF ⟨3, v, a, b, c, yes⟩ (F a.toNat) (F b.toNat) (F c.toNat)) own m lim L W) := by
  have hM1 := hM.below hb
  have hL : L.length ≤ 65536 := by have := hM.fits; omega
  by_cases h : InR n a ∧ InR n b
  · obtain ⟨ha, hb2⟩ := h
    have hok : okP n ⟨3, v, a, b, c, yes⟩ := by
      refine ⟨by show (0 : Int) ≤ 3 ∧ (3 : Int) ≤ 8; omega, fun i hi => ?_, fun hh => ?_⟩
      · have hi : (i : Int) < 2 := hi
        have : i = 0 ∨ i = 1 := by omega
        rcases this with rfl | rfl
        · exact ha
        · exact hb2
      · exfalso; revert hh; show (3 : Int) = 0 ∨ 5 < (3 : Int) → False; omega
    have ta := ref_in hT ha
    have tb := ref_in hT hb2
    exact (Or_good hM1 hl ta.1 tb.1 v).mono fun e w' hr => d_good hok (hr.fn_eq fun x => by rw [ta.2, tb.2]; rfl) hb
  · have hok : ¬ okP n ⟨3, v, a, b, c, yes⟩ := fun hok => h ⟨hok.2.1 0 (by show (0 : Int) < 2; omega), hok.2.1 1 (by show (1 : Int) < 2; omega)⟩
    exact (Or_bad hM1 (fun g => h ⟨Classical.byContradiction fun hn => ref_out (R := R) hL hn g.1, Classical.byContradiction fun hn => ref_out (R := R) hL hn g.2⟩)).mono fun e w' hr => d_bad hok hr hb
theorem does_4 (hM : Mg W own m lim L) (hl : lim ≤ 65536) (hT : ∀ j, j < n → Tells L (F j) (R j)) (hb : Below W.heap.size W w) : Calls Try.prog 25 #[.pointer (some ⟨m, 0, none⟩), .int .i64 (refAt R n a), .int .i64 (refAt R n b)] w (RetD n ⟨4, v, a, b, c, yes⟩ (opF ⟨4, v, a, b, c, yes⟩ (F a.toNat) (F b.toNat) (F c.toNat)) own m lim L W) := by
  have hM1 := hM.below hb
  have hL : L.length ≤ 65536 := by have := hM.fits; omega
  by_cases h : InR n a ∧ InR n b
  · obtain ⟨ha, hb2⟩ := h
    have hok : okP n ⟨4, v, a, b, c, yes⟩ := by
      refine ⟨by show (0 : Int) ≤ 4 ∧ (4 : Int) ≤ 8; omega, fun i hi => ?_, fun hh => ?_⟩
      · have hi : (i : Int) < 2 := hi
        have : i = 0 ∨ i = 1 := by omega
        rcases this with rfl | rfl
        · exact ha
        · exact hb2
      · exfalso; revert hh; show (4 : Int) = 0 ∨ 5 < (4 : Int) → False; omega
    have ta := ref_in hT ha
    have tb := ref_in hT hb2
    exact (Xor_good hM1 hl ta.1 tb.1 v).mono fun e w' hr => d_good hok (hr.fn_eq fun x => by rw [ta.2, tb.2]; rfl) hb
  · have hok : ¬ okP n ⟨4, v, a, b, c, yes⟩ := fun hok => h ⟨hok.2.1 0 (by show (0 : Int) < 2; omega), hok.2.1 1 (by show (1 : Int) < 2; omega)⟩
    exact (Xor_bad hM1 (fun g => h ⟨Classical.byContradiction fun hn => ref_out (R := R) hL hn g.1, Classical.byContradiction fun hn => ref_out (R := R) hL hn g.2⟩)).mono fun e w' hr => d_bad hok hr hb
theorem does_5 (hM : Mg W own m lim L) (hl : lim ≤ 65536) (hT : ∀ j, j < n → Tells L (F j) (R j)) (hb : Below W.heap.size W w) : Calls Try.prog 22 #[.pointer (some ⟨m, 0, none⟩), .int .i64 (refAt R n a), .int .i64 (refAt R n b), .int .i64 (refAt R n c)] w (RetD n ⟨5, v, a, b, c, yes⟩ (opF ⟨5, v, a, b, c, yes⟩ (F a.toNat) (F b.toNat) (F c.toNat)) own m lim L W) := by
  have hM1 := hM.below hb
  have hL : L.length ≤ 65536 := by have := hM.fits; omega
  by_cases h : InR n a ∧ InR n b ∧ InR n c
  · obtain ⟨ha, hb2, hc⟩ := h
    have hok : okP n ⟨5, v, a, b, c, yes⟩ := by
      refine ⟨by show (0 : Int) ≤ 5 ∧ (5 : Int) ≤ 8; omega, fun i hi => ?_, fun hh => ?_⟩
      · have hi : (i : Int) < 3 := hi
        have : i = 0 ∨ i = 1 ∨ i = 2 := by omega
        rcases this with rfl | rfl | rfl
        · exact ha
        · exact hb2
        · exact hc
      · exfalso; revert hh; show (5 : Int) = 0 ∨ 5 < (5 : Int) → False; omega
    have ta := ref_in hT ha
    have tb := ref_in hT hb2
    have tc := ref_in hT hc
    exact (Ite_good hM1 hl ta.1 tb.1 tc.1 v).mono fun e w' hr => d_good hok (hr.fn_eq fun x => by rw [ta.2, tb.2, tc.2]; rfl) hb
  · have hok : ¬ okP n ⟨5, v, a, b, c, yes⟩ := fun hok => h ⟨hok.2.1 0 (by show (0 : Int) < 3; omega), hok.2.1 1 (by show (1 : Int) < 3; omega), hok.2.1 2 (by show (2 : Int) < 3; omega)⟩
    exact (Ite_bad hM1 (fun g => h ⟨Classical.byContradiction fun hn => ref_out (R := R) hL hn g.1, Classical.byContradiction fun hn => ref_out (R := R) hL hn g.2.1, Classical.byContradiction fun hn => ref_out (R := R) hL hn g.2.2⟩)).mono fun e w' hr => d_bad hok hr hb
theorem does_6 (hM : Mg W own m lim L) (hl : lim ≤ 65536) (hT : ∀ j, j < n → Tells L (F j) (R j)) (hb : Below W.heap.size W w) : Calls Try.prog 23 #[.pointer (some ⟨m, 0, none⟩), .int .i64 (refAt R n a), .int .i64 v, .bool yes] w (RetD n ⟨6, v, a, b, c, yes⟩ (opF ⟨6, v, a, b, c, yes⟩ (F a.toNat) (F b.toNat) (F c.toNat)) own m lim L W) := by
  have hM1 := hM.below hb
  have hL : L.length ≤ 65536 := by have := hM.fits; omega
  by_cases h : InR n a ∧ (0 ≤ v ∧ v < 12)
  · obtain ⟨ha, hv⟩ := h
    have hok : okP n ⟨6, v, a, b, c, yes⟩ := by
      refine ⟨by show (0 : Int) ≤ 6 ∧ (6 : Int) ≤ 8; omega, fun i hi => ?_, fun hh => ?_⟩
      · have hi : (i : Int) < 1 := hi
        have : i = 0 := by omega
        rcases this with rfl
        · exact ha
      · exact hv
    have ta := ref_in hT ha
    obtain ⟨u, rfl⟩ : ∃ u : Nat, v = (u : Int) := ⟨v.toNat, by omega⟩
    have hu : u < 12 := by omega
    exact (Restrict_good (on := yes) hM1 hl ta.1 hu (u : Int)).mono fun e w' hr => d_good hok (hr.fn_eq fun x => by rw [ta.2]; rfl) hb
  · have hok : ¬ okP n ⟨6, v, a, b, c, yes⟩ := fun hok => h ⟨hok.2.1 0 (by show (0 : Int) < 1; omega), hok.2.2 (.inr (by show (5 : Int) < 6; omega))⟩
    exact (Restrict_bad hM1 (fun g => h ⟨Classical.byContradiction fun hn => ref_out (R := R) hL hn g.1, g.2⟩)).mono fun e w' hr => d_bad hok hr hb
theorem does_7 (hM : Mg W own m lim L) (hl : lim ≤ 65536) (hT : ∀ j, j < n → Tells L (F j) (R j)) (hb : Below W.heap.size W w) : Calls Try.prog 29 #[.pointer (some ⟨m, 0, none⟩), .int .i64 (refAt R n a), .int .i64 v] w (RetD n ⟨7, v, a, b, c, yes⟩ (opF ⟨7, v, a, b, c, yes⟩ (F a.toNat) (F b.toNat) (F c.toNat)) own m lim L W) := by
  have hM1 := hM.below hb
  have hL : L.length ≤ 65536 := by have := hM.fits; omega
  by_cases h : InR n a ∧ (0 ≤ v ∧ v < 12)
  · obtain ⟨ha, hv⟩ := h
    have hok : okP n ⟨7, v, a, b, c, yes⟩ := by
      refine ⟨by show (0 : Int) ≤ 7 ∧ (7 : Int) ≤ 8; omega, fun i hi => ?_, fun hh => ?_⟩
      · have hi : (i : Int) < 1 := hi
        have : i = 0 := by omega
        rcases this with rfl
        · exact ha
      · exact hv
    have ta := ref_in hT ha
    obtain ⟨u, rfl⟩ : ∃ u : Nat, v = (u : Int) := ⟨v.toNat, by omega⟩
    have hu : u < 12 := by omega
    exact (Exists_good hM1 hl ta.1 hu (u : Int)).mono fun e w' hr => d_good hok (hr.fn_eq fun x => by rw [ta.2, ta.2]; rfl) hb
  · have hok : ¬ okP n ⟨7, v, a, b, c, yes⟩ := fun hok => h ⟨hok.2.1 0 (by show (0 : Int) < 1; omega), hok.2.2 (.inr (by show (5 : Int) < 7; omega))⟩
    exact (Exists_bad hM1 (fun g => h ⟨Classical.byContradiction fun hn => ref_out (R := R) hL hn g.1, g.2⟩)).mono fun e w' hr => d_bad hok hr hb
theorem does_8 (hM : Mg W own m lim L) (hl : lim ≤ 65536) (hT : ∀ j, j < n → Tells L (F j) (R j)) (hb : Below W.heap.size W w) : Calls Try.prog 24 #[.pointer (some ⟨m, 0, none⟩), .int .i64 (refAt R n a), .int .i64 v, .int .i64 (refAt R n b)] w (RetD n ⟨8, v, a, b, c, yes⟩ (opF ⟨8, v, a, b, c, yes⟩ (F a.toNat) (F b.toNat) (F c.toNat)) own m lim L W) := by
  have hM1 := hM.below hb
  have hL : L.length ≤ 65536 := by have := hM.fits; omega
  by_cases h : InR n a ∧ (0 ≤ v ∧ v < 12) ∧ InR n b
  · obtain ⟨ha, hv, hb2⟩ := h
    have hok : okP n ⟨8, v, a, b, c, yes⟩ := by
      refine ⟨by show (0 : Int) ≤ 8 ∧ (8 : Int) ≤ 8; omega, fun i hi => ?_, fun hh => ?_⟩
      · have hi : (i : Int) < 2 := hi
        have : i = 0 ∨ i = 1 := by omega
        rcases this with rfl | rfl
        · exact ha
        · exact hb2
      · exact hv
    have ta := ref_in hT ha
    have tb := ref_in hT hb2
    obtain ⟨u, rfl⟩ : ∃ u : Nat, v = (u : Int) := ⟨v.toNat, by omega⟩
    have hu : u < 12 := by omega
    exact (Compose_good hM1 hl ta.1 hu tb.1 (u : Int)).mono fun e w' hr => d_good hok (hr.fn_eq fun x => by rw [ta.2, tb.2]; rfl) hb
  · have hok : ¬ okP n ⟨8, v, a, b, c, yes⟩ := fun hok => h ⟨hok.2.1 0 (by show (0 : Int) < 2; omega), hok.2.2 (.inr (by show (5 : Int) < 8; omega)), hok.2.1 1 (by show (1 : Int) < 2; omega)⟩
    exact (Compose_bad hM1 (fun g => h ⟨Classical.byContradiction fun hn => ref_out (R := R) hL hn g.1, g.2.1, Classical.byContradiction fun hn => ref_out (R := R) hL hn g.2.2⟩)).mono fun e w' hr => d_bad hok hr hb
set_option maxRecDepth 100000 in
set_option maxHeartbeats 1600000 in
theorem doesw_0 {Al : Option Addr} {cp : Nat} (hM : Mg W own m lim L) (hl : lim ≤ 65536) (hT : ∀ j, j < n → Tells L (F j) (R j)) (hR : Ints W Al n R) (hn : n ≤ 100) : Calls Try.prog 33 #[.pointer (some ⟨m, 0, none⟩), .slice Al n cp, .agg #[.int .i64 0, .int .i64 v, .int .i64 a, .int .i64 b, .int .i64 c, .bool yes]] W (RetD n ⟨0, v, a, b, c, yes⟩ (opF ⟨0, v, a, b, c, yes⟩ (F a.toNat) (F b.toNat) (F c.toNat)) own m lim L W) := by
  have s1 := size_up (rfl : W.heap.size = W.heap.size) (.cells #[.slice Al n cp] 26)
  have hb1 : Below W.heap.size W ((W.alloc (.cells #[.slice Al n cp] 26)).alloc (.cells #[.int .i64 0, .int .i64 v, .int .i64 a, .int .i64 b, .int .i64 c, .bool yes] 31)) := ((Below.refl W.heap.size W).alloc (Nat.le_refl _) _).alloc (by rw [s1]; omega) _
  have bl := (Blk.new W 26 #[.slice Al n cp]).up (.cells #[.int .i64 0, .int .i64 v, .int .i64 a, .int .i64 b, .int .i64 c, .bool yes] 31)
  have bo := Blk.new_ s1 31 #[.int .i64 0, .int .i64 v, .int .i64 a, .int .i64 b, .int .i64 c, .bool yes]
  have hbd := hb1.drew
  have hd : Below ((W.alloc (.cells #[.slice Al n cp] 26)).alloc (.cells #[.int .i64 0, .int .i64 v, .int .i64 a, .int .i64 b, .int .i64 c, .bool yes] 31)).heap.size ((W.alloc (.cells #[.slice Al n cp] 26)).alloc (.cells #[.int .i64 0, .int .i64 v, .int .i64 a, .int .i64 b, .int .i64 c, .bool yes] 31)) ((W.alloc (.cells #[.slice Al n cp] 26)).alloc (.cells #[.int .i64 0, .int .i64 v, .int .i64 a, .int .i64 b, .int .i64 c, .bool yes] 31)).drew := (Below.refl _ _).drew
  have HAt := Lib.hid (fun kk => at1_any (w := ((W.alloc (.cells #[.slice Al n cp] 26)).alloc (.cells #[.int .i64 0, .int .i64 v, .int .i64 a, .int .i64 b, .int .i64 c, .bool yes] 31)).drew) (s := W.heap.size) ((bl.below hd bl.lt).cell 0) (hR.below hbd) hn kk)
  have K0 : Hid (((W.alloc (.cells #[.slice Al n cp] 26)).alloc (.cells #[.int .i64 0, .int .i64 v, .int .i64 a, .int .i64 b, .int .i64 c, .bool yes] 31)).drew.cell? ⟨W.heap.size + 1, 0, none⟩ = some (.int .i64 0) ∧ ((W.alloc (.cells #[.slice Al n cp] 26)).alloc (.cells #[.int .i64 0, .int .i64 v, .int .i64 a, .int .i64 b, .int .i64 c, .bool yes] 31)).drew.cell? ⟨W.heap.size + 1, 1, none⟩ = some (.int .i64 v) ∧ ((W.alloc (.cells #[.slice Al n cp] 26)).alloc (.cells #[.int .i64 0, .int .i64 v, .int .i64 a, .int .i64 b, .int .i64 c, .bool yes] 31)).drew.cell? ⟨W.heap.size + 1, 2, none⟩ = some (.int .i64 a) ∧ ((W.alloc (.cells #[.slice Al n cp] 26)).alloc (.cells #[.int .i64 0, .int .i64 v, .int .i64 a, .int .i64 b, .int .i64 c, .bool yes] 31)).drew.cell? ⟨W.heap.size + 1, 3, none⟩ = some (.int .i64 b) ∧ ((W.alloc (.cells #[.slice Al n cp] 26)).alloc (.cells #[.int .i64 0, .int .i64 v, .int .i64 a, .int .i64 b, .int .i64 c, .bool yes] 31)).drew.cell? ⟨W.heap.size + 1, 4, none⟩ = some (.int .i64 c) ∧ ((W.alloc (.cells #[.slice Al n cp] 26)).alloc (.cells #[.int .i64 0, .int .i64 v, .int .i64 a, .int .i64 b, .int .i64 c, .bool yes] 31)).drew.cell? ⟨W.heap.size + 1, 5, none⟩ = some (.bool yes)) := Lib.hid ⟨bo.cell 0, bo.cell 1, bo.cell 2, bo.cell 3, bo.cell 4, bo.cell 5⟩
  have HBd := Lib.hid hbd
  have HC := Lib.hid (does_0 (v := v) (a := a) (b := b) (c := c) (yes := yes) hM hl hT hbd)
  clear hM hl hT hR hn s1 hb1 bl bo hbd hd
  go_enter Try.func33, Try.ntmps33
  go_wp2_with fail
  go_region_held3 (fun w => (w.cell? ⟨W.heap.size + 1, 0, none⟩ = some (.int .i64 0) ∧ w.cell? ⟨W.heap.size + 1, 1, none⟩ = some (.int .i64 v) ∧ w.cell? ⟨W.heap.size + 1, 2, none⟩ = some (.int .i64 a) ∧ w.cell? ⟨W.heap.size + 1, 3, none⟩ = some (.int .i64 b) ∧ w.cell? ⟨W.heap.size + 1, 4, none⟩ = some (.int .i64 c) ∧ w.cell? ⟨W.heap.size + 1, 5, none⟩ = some (.bool yes)))
    (first | (with_reducible exact K0.out))
    (first | (go_at_call 52; ((with_reducible refine (HAt.out _).mono ?_); rintro e w9 ⟨rfl, rfl⟩)))
  go_wp2_with (go_at_call 28; ((with_reducible refine HC.out.mono ?_); rintro e w3 ⟨x3, ev3, rfl, h3⟩))
  go_ret2
  exact ⟨x3, ev3, rfl, h3⟩
set_option maxRecDepth 100000 in
set_option maxHeartbeats 1600000 in
theorem doesw_1 {Al : Option Addr} {cp : Nat} (hM : Mg W own m lim L) (hl : lim ≤ 65536) (hT : ∀ j, j < n → Tells L (F j) (R j)) (hR : Ints W Al n R) (hn : n ≤ 100) : Calls Try.prog 33 #[.pointer (some ⟨m, 0, none⟩), .slice Al n cp, .agg #[.int .i64 1, .int .i64 v, .int .i64 a, .int .i64 b, .int .i64 c, .bool yes]] W (RetD n ⟨1, v, a, b, c, yes⟩ (opF ⟨1, v, a, b, c, yes⟩ (F a.toNat) (F b.toNat) (F c.toNat)) own m lim L W) := by
  have s1 := size_up (rfl : W.heap.size = W.heap.size) (.cells #[.slice Al n cp] 26)
  have hb1 : Below W.heap.size W ((W.alloc (.cells #[.slice Al n cp] 26)).alloc (.cells #[.int .i64 1, .int .i64 v, .int .i64 a, .int .i64 b, .int .i64 c, .bool yes] 31)) := ((Below.refl W.heap.size W).alloc (Nat.le_refl _) _).alloc (by rw [s1]; omega) _
  have bl := (Blk.new W 26 #[.slice Al n cp]).up (.cells #[.int .i64 1, .int .i64 v, .int .i64 a, .int .i64 b, .int .i64 c, .bool yes] 31)
  have bo := Blk.new_ s1 31 #[.int .i64 1, .int .i64 v, .int .i64 a, .int .i64 b, .int .i64 c, .bool yes]
  have hbd := hb1.drew
  have hd : Below ((W.alloc (.cells #[.slice Al n cp] 26)).alloc (.cells #[.int .i64 1, .int .i64 v, .int .i64 a, .int .i64 b, .int .i64 c, .bool yes] 31)).heap.size ((W.alloc (.cells #[.slice Al n cp] 26)).alloc (.cells #[.int .i64 1, .int .i64 v, .int .i64 a, .int .i64 b, .int .i64 c, .bool yes] 31)) ((W.alloc (.cells #[.slice Al n cp] 26)).alloc (.cells #[.int .i64 1, .int .i64 v, .int .i64 a, .int .i64 b, .int .i64 c, .bool yes] 31)).drew := (Below.refl _ _).drew
  have HAt := Lib.hid (fun kk => at1_any (w := ((W.alloc (.cells #[.slice Al n cp] 26)).alloc (.cells #[.int .i64 1, .int .i64 v, .int .i64 a, .int .i64 b, .int .i64 c, .bool yes] 31)).drew) (s := W.heap.size) ((bl.below hd bl.lt).cell 0) (hR.below hbd) hn kk)
  have K0 : Hid (((W.alloc (.cells #[.slice Al n cp] 26)).alloc (.cells #[.int .i64 1, .int .i64 v, .int .i64 a, .int .i64 b, .int .i64 c, .bool yes] 31)).drew.cell? ⟨W.heap.size + 1, 0, none⟩ = some (.int .i64 1) ∧ ((W.alloc (.cells #[.slice Al n cp] 26)).alloc (.cells #[.int .i64 1, .int .i64 v, .int .i64 a, .int .i64 b, .int .i64 c, .bool yes] 31)).drew.cell? ⟨W.heap.size + 1, 1, none⟩ = some (.int .i64 v) ∧ ((W.alloc (.cells #[.slice Al n cp] 26)).alloc (.cells #[.int .i64 1, .int .i64 v, .int .i64 a, .int .i64 b, .int .i64 c, .bool yes] 31)).drew.cell? ⟨W.heap.size + 1, 2, none⟩ = some (.int .i64 a) ∧ ((W.alloc (.cells #[.slice Al n cp] 26)).alloc (.cells #[.int .i64 1, .int .i64 v, .int .i64 a, .int .i64 b, .int .i64 c, .bool yes] 31)).drew.cell? ⟨W.heap.size + 1, 3, none⟩ = some (.int .i64 b) ∧ ((W.alloc (.cells #[.slice Al n cp] 26)).alloc (.cells #[.int .i64 1, .int .i64 v, .int .i64 a, .int .i64 b, .int .i64 c, .bool yes] 31)).drew.cell? ⟨W.heap.size + 1, 4, none⟩ = some (.int .i64 c) ∧ ((W.alloc (.cells #[.slice Al n cp] 26)).alloc (.cells #[.int .i64 1, .int .i64 v, .int .i64 a, .int .i64 b, .int .i64 c, .bool yes] 31)).drew.cell? ⟨W.heap.size + 1, 5, none⟩ = some (.bool yes)) := Lib.hid ⟨bo.cell 0, bo.cell 1, bo.cell 2, bo.cell 3, bo.cell 4, bo.cell 5⟩
  have HBd := Lib.hid hbd
  have HC := Lib.hid (does_1 (v := v) (a := a) (b := b) (c := c) (yes := yes) hM hl hT hbd)
  clear hM hl hT hR hn s1 hb1 bl bo hbd hd
  go_enter Try.func33, Try.ntmps33
  go_wp2_with fail
  go_region_held3 (fun w => (w.cell? ⟨W.heap.size + 1, 0, none⟩ = some (.int .i64 1) ∧ w.cell? ⟨W.heap.size + 1, 1, none⟩ = some (.int .i64 v) ∧ w.cell? ⟨W.heap.size + 1, 2, none⟩ = some (.int .i64 a) ∧ w.cell? ⟨W.heap.size + 1, 3, none⟩ = some (.int .i64 b) ∧ w.cell? ⟨W.heap.size + 1, 4, none⟩ = some (.int .i64 c) ∧ w.cell? ⟨W.heap.size + 1, 5, none⟩ = some (.bool yes)))
    (first | (with_reducible exact K0.out))
    (first | (go_at_call 52; ((with_reducible refine (HAt.out _).mono ?_); rintro e w9 ⟨rfl, rfl⟩)))
  go_wp2_with (go_at_call 20; ((with_reducible refine HC.out.mono ?_); rintro e w3 ⟨x3, ev3, rfl, h3⟩))
  go_ret2
  exact ⟨x3, ev3, rfl, h3⟩
set_option maxRecDepth 100000 in
set_option maxHeartbeats 1600000 in
theorem doesw_2 {Al : Option Addr} {cp : Nat} (hM : Mg W own m lim L) (hl : lim ≤ 65536) (hT : ∀ j, j < n → Tells L (F j) (R j)) (hR : Ints W Al n R) (hn : n ≤ 100) : Calls Try.prog 33 #[.pointer (some ⟨m, 0, none⟩), .slice Al n cp, .agg #[.int .i64 2, .int .i64 v, .int .i64 a, .int .i64 b, .int .i64 c, .bool yes]] W (RetD n ⟨2, v, a, b, c, yes⟩ (opF ⟨2, v, a, b, c, yes⟩ (F a.toNat) (F b.toNat) (F c.toNat)) own m lim L W) := by
  have s1 := size_up (rfl : W.heap.size = W.heap.size) (.cells #[.slice Al n cp] 26)
  have hb1 : Below W.heap.size W ((W.alloc (.cells #[.slice Al n cp] 26)).alloc (.cells #[.int .i64 2, .int .i64 v, .int .i64 a, .int .i64 b, .int .i64 c, .bool yes] 31)) := ((Below.refl W.heap.size W).alloc (Nat.le_refl _) _).alloc (by rw [s1]; omega) _
  have bl := (Blk.new W 26 #[.slice Al n cp]).up (.cells #[.int .i64 2, .int .i64 v, .int .i64 a, .int .i64 b, .int .i64 c, .bool yes] 31)
  have bo := Blk.new_ s1 31 #[.int .i64 2, .int .i64 v, .int .i64 a, .int .i64 b, .int .i64 c, .bool yes]
  have hbd := hb1.drew
  have hd : Below ((W.alloc (.cells #[.slice Al n cp] 26)).alloc (.cells #[.int .i64 2, .int .i64 v, .int .i64 a, .int .i64 b, .int .i64 c, .bool yes] 31)).heap.size ((W.alloc (.cells #[.slice Al n cp] 26)).alloc (.cells #[.int .i64 2, .int .i64 v, .int .i64 a, .int .i64 b, .int .i64 c, .bool yes] 31)) ((W.alloc (.cells #[.slice Al n cp] 26)).alloc (.cells #[.int .i64 2, .int .i64 v, .int .i64 a, .int .i64 b, .int .i64 c, .bool yes] 31)).drew := (Below.refl _ _).drew
  have HAt := Lib.hid (fun kk => at1_any (w := ((W.alloc (.cells #[.slice Al n cp] 26)).alloc (.cells #[.int .i64 2, .int .i64 v, .int .i64 a, .int .i64 b, .int .i64 c, .bool yes] 31)).drew) (s := W.heap.size) ((bl.below hd bl.lt).cell 0) (hR.below hbd) hn kk)
  have K0 : Hid (((W.alloc (.cells #[.slice Al n cp] 26)).alloc (.cells #[.int .i64 2, .int .i64 v, .int .i64 a, .int .i64 b, .int .i64 c, .bool yes] 31)).drew.cell? ⟨W.heap.size + 1, 0, none⟩ = some (.int .i64 2) ∧ ((W.alloc (.cells #[.slice Al n cp] 26)).alloc (.cells #[.int .i64 2, .int .i64 v, .int .i64 a, .int .i64 b, .int .i64 c, .bool yes] 31)).drew.cell? ⟨W.heap.size + 1, 1, none⟩ = some (.int .i64 v) ∧ ((W.alloc (.cells #[.slice Al n cp] 26)).alloc (.cells #[.int .i64 2, .int .i64 v, .int .i64 a, .int .i64 b, .int .i64 c, .bool yes] 31)).drew.cell? ⟨W.heap.size + 1, 2, none⟩ = some (.int .i64 a) ∧ ((W.alloc (.cells #[.slice Al n cp] 26)).alloc (.cells #[.int .i64 2, .int .i64 v, .int .i64 a, .int .i64 b, .int .i64 c, .bool yes] 31)).drew.cell? ⟨W.heap.size + 1, 3, none⟩ = some (.int .i64 b) ∧ ((W.alloc (.cells #[.slice Al n cp] 26)).alloc (.cells #[.int .i64 2, .int .i64 v, .int .i64 a, .int .i64 b, .int .i64 c, .bool yes] 31)).drew.cell? ⟨W.heap.size + 1, 4, none⟩ = some (.int .i64 c) ∧ ((W.alloc (.cells #[.slice Al n cp] 26)).alloc (.cells #[.int .i64 2, .int .i64 v, .int .i64 a, .int .i64 b, .int .i64 c, .bool yes] 31)).drew.cell? ⟨W.heap.size + 1, 5, none⟩ = some (.bool yes)) := Lib.hid ⟨bo.cell 0, bo.cell 1, bo.cell 2, bo.cell 3, bo.cell 4, bo.cell 5⟩
  have HBd := Lib.hid hbd
  have HC := Lib.hid (does_2 (v := v) (a := a) (b := b) (c := c) (yes := yes) hM hl hT hbd)
  clear hM hl hT hR hn s1 hb1 bl bo hbd hd
  go_enter Try.func33, Try.ntmps33
  go_wp2_with fail
  go_region_held3 (fun w => (w.cell? ⟨W.heap.size + 1, 0, none⟩ = some (.int .i64 2) ∧ w.cell? ⟨W.heap.size + 1, 1, none⟩ = some (.int .i64 v) ∧ w.cell? ⟨W.heap.size + 1, 2, none⟩ = some (.int .i64 a) ∧ w.cell? ⟨W.heap.size + 1, 3, none⟩ = some (.int .i64 b) ∧ w.cell? ⟨W.heap.size + 1, 4, none⟩ = some (.int .i64 c) ∧ w.cell? ⟨W.heap.size + 1, 5, none⟩ = some (.bool yes)))
    (first | (with_reducible exact K0.out))
    (first | (go_at_call 52; ((with_reducible refine (HAt.out _).mono ?_); rintro e w9 ⟨rfl, rfl⟩)))
  go_wp2_with (go_at_call 21; ((with_reducible refine HC.out.mono ?_); rintro e w3 ⟨x3, ev3, rfl, h3⟩))
  go_ret2
  exact ⟨x3, ev3, rfl, h3⟩
set_option maxRecDepth 100000 in
set_option maxHeartbeats 1600000 in
theorem doesw_3 {Al : Option Addr} {cp : Nat} (hM : Mg W own m lim L) (hl : lim ≤ 65536) (hT : ∀ j, j < n → Tells L (F j) (R j)) (hR : Ints W Al n R) (hn : n ≤ 100) : Calls Try.prog 33 #[.pointer (some ⟨m, 0, none⟩), .slice Al n cp, .agg #[.int .i64 3, .int .i64 v, .int .i64 a, .int .i64 b, .int .i64 c, .bool yes]] W (RetD n ⟨3, v, a, b, c, yes⟩ (opF ⟨3, v, a, b, c, yes⟩ (F a.toNat) (F b.toNat) (F c.toNat)) own m lim L W) := by
  have s1 := size_up (rfl : W.heap.size = W.heap.size) (.cells #[.slice Al n cp] 26)
  have hb1 : Below W.heap.size W ((W.alloc (.cells #[.slice Al n cp] 26)).alloc (.cells #[.int .i64 3, .int .i64 v, .int .i64 a, .int .i64 b, .int .i64 c, .bool yes] 31)) := ((Below.refl W.heap.size W).alloc (Nat.le_refl _) _).alloc (by rw [s1]; omega) _
  have bl := (Blk.new W 26 #[.slice Al n cp]).up (.cells #[.int .i64 3, .int .i64 v, .int .i64 a, .int .i64 b, .int .i64 c, .bool yes] 31)
  have bo := Blk.new_ s1 31 #[.int .i64 3, .int .i64 v, .int .i64 a, .int .i64 b, .int .i64 c, .bool yes]
  have hbd := hb1.drew
  have hd : Below ((W.alloc (.cells #[.slice Al n cp] 26)).alloc (.cells #[.int .i64 3, .int .i64 v, .int .i64 a, .int .i64 b, .int .i64 c, .bool yes] 31)).heap.size ((W.alloc (.cells #[.slice Al n cp] 26)).alloc (.cells #[.int .i64 3, .int .i64 v, .int .i64 a, .int .i64 b, .int .i64 c, .bool yes] 31)) ((W.alloc (.cells #[.slice Al n cp] 26)).alloc (.cells #[.int .i64 3, .int .i64 v, .int .i64 a, .int .i64 b, .int .i64 c, .bool yes] 31)).drew := (Below.refl _ _).drew
  have HAt := Lib.hid (fun kk => at1_any (w := ((W.alloc (.cells #[.slice Al n cp] 26)).alloc (.cells #[.int .i64 3, .int .i64 v, .int .i64 a, .int .i64 b, .int .i64 c, .bool yes] 31)).drew) (s := W.heap.size) ((bl.below hd bl.lt).cell 0) (hR.below hbd) hn kk)
  have K0 : Hid (((W.alloc (.cells #[.slice Al n cp] 26)).alloc (.cells #[.int .i64 3, .int .i64 v, .int .i64 a, .int .i64 b, .int .i64 c, .bool yes] 31)).drew.cell? ⟨W.heap.size + 1, 0, none⟩ = some (.int .i64 3) ∧ ((W.alloc (.cells #[.slice Al n cp] 26)).alloc (.cells #[.int .i64 3, .int .i64 v, .int .i64 a, .int .i64 b, .int .i64 c, .bool yes] 31)).drew.cell? ⟨W.heap.size + 1, 1, none⟩ = some (.int .i64 v) ∧ ((W.alloc (.cells #[.slice Al n cp] 26)).alloc (.cells #[.int .i64 3, .int .i64 v, .int .i64 a, .int .i64 b, .int .i64 c, .bool yes] 31)).drew.cell? ⟨W.heap.size + 1, 2, none⟩ = some (.int .i64 a) ∧ ((W.alloc (.cells #[.slice Al n cp] 26)).alloc (.cells #[.int .i64 3, .int .i64 v, .int .i64 a, .int .i64 b, .int .i64 c, .bool yes] 31)).drew.cell? ⟨W.heap.size + 1, 3, none⟩ = some (.int .i64 b) ∧ ((W.alloc (.cells #[.slice Al n cp] 26)).alloc (.cells #[.int .i64 3, .int .i64 v, .int .i64 a, .int .i64 b, .int .i64 c, .bool yes] 31)).drew.cell? ⟨W.heap.size + 1, 4, none⟩ = some (.int .i64 c) ∧ ((W.alloc (.cells #[.slice Al n cp] 26)).alloc (.cells #[.int .i64 3, .int .i64 v, .int .i64 a, .int .i64 b, .int .i64 c, .bool yes] 31)).drew.cell? ⟨W.heap.size + 1, 5, none⟩ = some (.bool yes)) := Lib.hid ⟨bo.cell 0, bo.cell 1, bo.cell 2, bo.cell 3, bo.cell 4, bo.cell 5⟩
  have HBd := Lib.hid hbd
  have HC := Lib.hid (does_3 (v := v) (a := a) (b := b) (c := c) (yes := yes) hM hl hT hbd)
  clear hM hl hT hR hn s1 hb1 bl bo hbd hd
  go_enter Try.func33, Try.ntmps33
  go_wp2_with fail
  go_region_held3 (fun w => (w.cell? ⟨W.heap.size + 1, 0, none⟩ = some (.int .i64 3) ∧ w.cell? ⟨W.heap.size + 1, 1, none⟩ = some (.int .i64 v) ∧ w.cell? ⟨W.heap.size + 1, 2, none⟩ = some (.int .i64 a) ∧ w.cell? ⟨W.heap.size + 1, 3, none⟩ = some (.int .i64 b) ∧ w.cell? ⟨W.heap.size + 1, 4, none⟩ = some (.int .i64 c) ∧ w.cell? ⟨W.heap.size + 1, 5, none⟩ = some (.bool yes)))
    (first | (with_reducible exact K0.out))
    (first | (go_at_call 52; ((with_reducible refine (HAt.out _).mono ?_); rintro e w9 ⟨rfl, rfl⟩)))
  go_wp2_with (go_at_call 53; ((with_reducible refine HC.out.mono ?_); rintro e w3 ⟨x3, ev3, rfl, h3⟩))
  go_ret2
  exact ⟨x3, ev3, rfl, h3⟩
set_option maxRecDepth 100000 in
set_option maxHeartbeats 1600000 in
theorem doesw_4 {Al : Option Addr} {cp : Nat} (hM : Mg W own m lim L) (hl : lim ≤ 65536) (hT : ∀ j, j < n → Tells L (F j) (R j)) (hR : Ints W Al n R) (hn : n ≤ 100) : Calls Try.prog 33 #[.pointer (some ⟨m, 0, none⟩), .slice Al n cp, .agg #[.int .i64 4, .int .i64 v, .int .i64 a, .int .i64 b, .int .i64 c, .bool yes]] W (RetD n ⟨4, v, a, b, c, yes⟩ (opF ⟨4, v, a, b, c, yes⟩ (F a.toNat) (F b.toNat) (F c.toNat)) own m lim L W) := by
  have s1 := size_up (rfl : W.heap.size = W.heap.size) (.cells #[.slice Al n cp] 26)
  have hb1 : Below W.heap.size W ((W.alloc (.cells #[.slice Al n cp] 26)).alloc (.cells #[.int .i64 4, .int .i64 v, .int .i64 a, .int .i64 b, .int .i64 c, .bool yes] 31)) := ((Below.refl W.heap.size W).alloc (Nat.le_refl _) _).alloc (by rw [s1]; omega) _
  have bl := (Blk.new W 26 #[.slice Al n cp]).up (.cells #[.int .i64 4, .int .i64 v, .int .i64 a, .int .i64 b, .int .i64 c, .bool yes] 31)
  have bo := Blk.new_ s1 31 #[.int .i64 4, .int .i64 v, .int .i64 a, .int .i64 b, .int .i64 c, .bool yes]
  have hbd := hb1.drew
  have hd : Below ((W.alloc (.cells #[.slice Al n cp] 26)).alloc (.cells #[.int .i64 4, .int .i64 v, .int .i64 a, .int .i64 b, .int .i64 c, .bool yes] 31)).heap.size ((W.alloc (.cells #[.slice Al n cp] 26)).alloc (.cells #[.int .i64 4, .int .i64 v, .int .i64 a, .int .i64 b, .int .i64 c, .bool yes] 31)) ((W.alloc (.cells #[.slice Al n cp] 26)).alloc (.cells #[.int .i64 4, .int .i64 v, .int .i64 a, .int .i64 b, .int .i64 c, .bool yes] 31)).drew := (Below.refl _ _).drew
  have HAt := Lib.hid (fun kk => at1_any (w := ((W.alloc (.cells #[.slice Al n cp] 26)).alloc (.cells #[.int .i64 4, .int .i64 v, .int .i64 a, .int .i64 b, .int .i64 c, .bool yes] 31)).drew) (s := W.heap.size) ((bl.below hd bl.lt).cell 0) (hR.below hbd) hn kk)
  have K0 : Hid (((W.alloc (.cells #[.slice Al n cp] 26)).alloc (.cells #[.int .i64 4, .int .i64 v, .int .i64 a, .int .i64 b, .int .i64 c, .bool yes] 31)).drew.cell? ⟨W.heap.size + 1, 0, none⟩ = some (.int .i64 4) ∧ ((W.alloc (.cells #[.slice Al n cp] 26)).alloc (.cells #[.int .i64 4, .int .i64 v, .int .i64 a, .int .i64 b, .int .i64 c, .bool yes] 31)).drew.cell? ⟨W.heap.size + 1, 1, none⟩ = some (.int .i64 v) ∧ ((W.alloc (.cells #[.slice Al n cp] 26)).alloc (.cells #[.int .i64 4, .int .i64 v, .int .i64 a, .int .i64 b, .int .i64 c, .bool yes] 31)).drew.cell? ⟨W.heap.size + 1, 2, none⟩ = some (.int .i64 a) ∧ ((W.alloc (.cells #[.slice Al n cp] 26)).alloc (.cells #[.int .i64 4, .int .i64 v, .int .i64 a, .int .i64 b, .int .i64 c, .bool yes] 31)).drew.cell? ⟨W.heap.size + 1, 3, none⟩ = some (.int .i64 b) ∧ ((W.alloc (.cells #[.slice Al n cp] 26)).alloc (.cells #[.int .i64 4, .int .i64 v, .int .i64 a, .int .i64 b, .int .i64 c, .bool yes] 31)).drew.cell? ⟨W.heap.size + 1, 4, none⟩ = some (.int .i64 c) ∧ ((W.alloc (.cells #[.slice Al n cp] 26)).alloc (.cells #[.int .i64 4, .int .i64 v, .int .i64 a, .int .i64 b, .int .i64 c, .bool yes] 31)).drew.cell? ⟨W.heap.size + 1, 5, none⟩ = some (.bool yes)) := Lib.hid ⟨bo.cell 0, bo.cell 1, bo.cell 2, bo.cell 3, bo.cell 4, bo.cell 5⟩
  have HBd := Lib.hid hbd
  have HC := Lib.hid (does_4 (v := v) (a := a) (b := b) (c := c) (yes := yes) hM hl hT hbd)
  clear hM hl hT hR hn s1 hb1 bl bo hbd hd
  go_enter Try.func33, Try.ntmps33
  go_wp2_with fail
  go_region_held3 (fun w => (w.cell? ⟨W.heap.size + 1, 0, none⟩ = some (.int .i64 4) ∧ w.cell? ⟨W.heap.size + 1, 1, none⟩ = some (.int .i64 v) ∧ w.cell? ⟨W.heap.size + 1, 2, none⟩ = some (.int .i64 a) ∧ w.cell? ⟨W.heap.size + 1, 3, none⟩ = some (.int .i64 b) ∧ w.cell? ⟨W.heap.size + 1, 4, none⟩ = some (.int .i64 c) ∧ w.cell? ⟨W.heap.size + 1, 5, none⟩ = some (.bool yes)))
    (first | (with_reducible exact K0.out))
    (first | (go_at_call 52; ((with_reducible refine (HAt.out _).mono ?_); rintro e w9 ⟨rfl, rfl⟩)))
  go_wp2_with (go_at_call 25; ((with_reducible refine HC.out.mono ?_); rintro e w3 ⟨x3, ev3, rfl, h3⟩))
  go_ret2
  exact ⟨x3, ev3, rfl, h3⟩
set_option maxRecDepth 100000 in
set_option maxHeartbeats 1600000 in
theorem doesw_5 {Al : Option Addr} {cp : Nat} (hM : Mg W own m lim L) (hl : lim ≤ 65536) (hT : ∀ j, j < n → Tells L (F j) (R j)) (hR : Ints W Al n R) (hn : n ≤ 100) : Calls Try.prog 33 #[.pointer (some ⟨m, 0, none⟩), .slice Al n cp, .agg #[.int .i64 5, .int .i64 v, .int .i64 a, .int .i64 b, .int .i64 c, .bool yes]] W (RetD n ⟨5, v, a, b, c, yes⟩ (opF ⟨5, v, a, b, c, yes⟩ (F a.toNat) (F b.toNat) (F c.toNat)) own m lim L W) := by
  have s1 := size_up (rfl : W.heap.size = W.heap.size) (.cells #[.slice Al n cp] 26)
  have hb1 : Below W.heap.size W ((W.alloc (.cells #[.slice Al n cp] 26)).alloc (.cells #[.int .i64 5, .int .i64 v, .int .i64 a, .int .i64 b, .int .i64 c, .bool yes] 31)) := ((Below.refl W.heap.size W).alloc (Nat.le_refl _) _).alloc (by rw [s1]; omega) _
  have bl := (Blk.new W 26 #[.slice Al n cp]).up (.cells #[.int .i64 5, .int .i64 v, .int .i64 a, .int .i64 b, .int .i64 c, .bool yes] 31)
  have bo := Blk.new_ s1 31 #[.int .i64 5, .int .i64 v, .int .i64 a, .int .i64 b, .int .i64 c, .bool yes]
  have hbd := hb1.drew
  have hd : Below ((W.alloc (.cells #[.slice Al n cp] 26)).alloc (.cells #[.int .i64 5, .int .i64 v, .int .i64 a, .int .i64 b, .int .i64 c, .bool yes] 31)).heap.size ((W.alloc (.cells #[.slice Al n cp] 26)).alloc (.cells #[.int .i64 5, .int .i64 v, .int .i64 a, .int .i64 b, .int .i64 c, .bool yes] 31)) ((W.alloc (.cells #[.slice Al n cp] 26)).alloc (.cells #[.int .i64 5, .int .i64 v, .int .i64 a, .int .i64 b, .int .i64 c, .bool yes] 31)).drew := (Below.refl _ _).drew
  have HAt := Lib.hid (fun kk => at1_any (w := ((W.alloc (.cells #[.slice Al n cp] 26)).alloc (.cells #[.int .i64 5, .int .i64 v, .int .i64 a, .int .i64 b, .int .i64 c, .bool yes] 31)).drew) (s := W.heap.size) ((bl.below hd bl.lt).cell 0) (hR.below hbd) hn kk)
  have K0 : Hid (((W.alloc (.cells #[.slice Al n cp] 26)).alloc (.cells #[.int .i64 5, .int .i64 v, .int .i64 a, .int .i64 b, .int .i64 c, .bool yes] 31)).drew.cell? ⟨W.heap.size + 1, 0, none⟩ = some (.int .i64 5) ∧ ((W.alloc (.cells #[.slice Al n cp] 26)).alloc (.cells #[.int .i64 5, .int .i64 v, .int .i64 a, .int .i64 b, .int .i64 c, .bool yes] 31)).drew.cell? ⟨W.heap.size + 1, 1, none⟩ = some (.int .i64 v) ∧ ((W.alloc (.cells #[.slice Al n cp] 26)).alloc (.cells #[.int .i64 5, .int .i64 v, .int .i64 a, .int .i64 b, .int .i64 c, .bool yes] 31)).drew.cell? ⟨W.heap.size + 1, 2, none⟩ = some (.int .i64 a) ∧ ((W.alloc (.cells #[.slice Al n cp] 26)).alloc (.cells #[.int .i64 5, .int .i64 v, .int .i64 a, .int .i64 b, .int .i64 c, .bool yes] 31)).drew.cell? ⟨W.heap.size + 1, 3, none⟩ = some (.int .i64 b) ∧ ((W.alloc (.cells #[.slice Al n cp] 26)).alloc (.cells #[.int .i64 5, .int .i64 v, .int .i64 a, .int .i64 b, .int .i64 c, .bool yes] 31)).drew.cell? ⟨W.heap.size + 1, 4, none⟩ = some (.int .i64 c) ∧ ((W.alloc (.cells #[.slice Al n cp] 26)).alloc (.cells #[.int .i64 5, .int .i64 v, .int .i64 a, .int .i64 b, .int .i64 c, .bool yes] 31)).drew.cell? ⟨W.heap.size + 1, 5, none⟩ = some (.bool yes)) := Lib.hid ⟨bo.cell 0, bo.cell 1, bo.cell 2, bo.cell 3, bo.cell 4, bo.cell 5⟩
  have HBd := Lib.hid hbd
  have HC := Lib.hid (does_5 (v := v) (a := a) (b := b) (c := c) (yes := yes) hM hl hT hbd)
  clear hM hl hT hR hn s1 hb1 bl bo hbd hd
  go_enter Try.func33, Try.ntmps33
  go_wp2_with fail
  go_region_held3 (fun w => (w.cell? ⟨W.heap.size + 1, 0, none⟩ = some (.int .i64 5) ∧ w.cell? ⟨W.heap.size + 1, 1, none⟩ = some (.int .i64 v) ∧ w.cell? ⟨W.heap.size + 1, 2, none⟩ = some (.int .i64 a) ∧ w.cell? ⟨W.heap.size + 1, 3, none⟩ = some (.int .i64 b) ∧ w.cell? ⟨W.heap.size + 1, 4, none⟩ = some (.int .i64 c) ∧ w.cell? ⟨W.heap.size + 1, 5, none⟩ = some (.bool yes)))
    (first | (with_reducible exact K0.out))
    (first | (go_at_call 52; ((with_reducible refine (HAt.out _).mono ?_); rintro e w9 ⟨rfl, rfl⟩)))
  go_wp2_with (go_at_call 22; ((with_reducible refine HC.out.mono ?_); rintro e w3 ⟨x3, ev3, rfl, h3⟩))
  go_ret2
  exact ⟨x3, ev3, rfl, h3⟩
set_option maxRecDepth 100000 in
set_option maxHeartbeats 1600000 in
theorem doesw_6 {Al : Option Addr} {cp : Nat} (hM : Mg W own m lim L) (hl : lim ≤ 65536) (hT : ∀ j, j < n → Tells L (F j) (R j)) (hR : Ints W Al n R) (hn : n ≤ 100) : Calls Try.prog 33 #[.pointer (some ⟨m, 0, none⟩), .slice Al n cp, .agg #[.int .i64 6, .int .i64 v, .int .i64 a, .int .i64 b, .int .i64 c, .bool yes]] W (RetD n ⟨6, v, a, b, c, yes⟩ (opF ⟨6, v, a, b, c, yes⟩ (F a.toNat) (F b.toNat) (F c.toNat)) own m lim L W) := by
  have s1 := size_up (rfl : W.heap.size = W.heap.size) (.cells #[.slice Al n cp] 26)
  have hb1 : Below W.heap.size W ((W.alloc (.cells #[.slice Al n cp] 26)).alloc (.cells #[.int .i64 6, .int .i64 v, .int .i64 a, .int .i64 b, .int .i64 c, .bool yes] 31)) := ((Below.refl W.heap.size W).alloc (Nat.le_refl _) _).alloc (by rw [s1]; omega) _
  have bl := (Blk.new W 26 #[.slice Al n cp]).up (.cells #[.int .i64 6, .int .i64 v, .int .i64 a, .int .i64 b, .int .i64 c, .bool yes] 31)
  have bo := Blk.new_ s1 31 #[.int .i64 6, .int .i64 v, .int .i64 a, .int .i64 b, .int .i64 c, .bool yes]
  have hbd := hb1.drew
  have hd : Below ((W.alloc (.cells #[.slice Al n cp] 26)).alloc (.cells #[.int .i64 6, .int .i64 v, .int .i64 a, .int .i64 b, .int .i64 c, .bool yes] 31)).heap.size ((W.alloc (.cells #[.slice Al n cp] 26)).alloc (.cells #[.int .i64 6, .int .i64 v, .int .i64 a, .int .i64 b, .int .i64 c, .bool yes] 31)) ((W.alloc (.cells #[.slice Al n cp] 26)).alloc (.cells #[.int .i64 6, .int .i64 v, .int .i64 a, .int .i64 b, .int .i64 c, .bool yes] 31)).drew := (Below.refl _ _).drew
  have HAt := Lib.hid (fun kk => at1_any (w := ((W.alloc (.cells #[.slice Al n cp] 26)).alloc (.cells #[.int .i64 6, .int .i64 v, .int .i64 a, .int .i64 b, .int .i64 c, .bool yes] 31)).drew) (s := W.heap.size) ((bl.below hd bl.lt).cell 0) (hR.below hbd) hn kk)
  have K0 : Hid (((W.alloc (.cells #[.slice Al n cp] 26)).alloc (.cells #[.int .i64 6, .int .i64 v, .int .i64 a, .int .i64 b, .int .i64 c, .bool yes] 31)).drew.cell? ⟨W.heap.size + 1, 0, none⟩ = some (.int .i64 6) ∧ ((W.alloc (.cells #[.slice Al n cp] 26)).alloc (.cells #[.int .i64 6, .int .i64 v, .int .i64 a, .int .i64 b, .int .i64 c, .bool yes] 31)).drew.cell? ⟨W.heap.size + 1, 1, none⟩ = some (.int .i64 v) ∧ ((W.alloc (.cells #[.slice Al n cp] 26)).alloc (.cells #[.int .i64 6, .int .i64 v, .int .i64 a, .int .i64 b, .int .i64 c, .bool yes] 31)).drew.cell? ⟨W.heap.size + 1, 2, none⟩ = some (.int .i64 a) ∧ ((W.alloc (.cells #[.slice Al n cp] 26)).alloc (.cells #[.int .i64 6, .int .i64 v, .int .i64 a, .int .i64 b, .int .i64 c, .bool yes] 31)).drew.cell? ⟨W.heap.size + 1, 3, none⟩ = some (.int .i64 b) ∧ ((W.alloc (.cells #[.slice Al n cp] 26)).alloc (.cells #[.int .i64 6, .int .i64 v, .int .i64 a, .int .i64 b, .int .i64 c, .bool yes] 31)).drew.cell? ⟨W.heap.size + 1, 4, none⟩ = some (.int .i64 c) ∧ ((W.alloc (.cells #[.slice Al n cp] 26)).alloc (.cells #[.int .i64 6, .int .i64 v, .int .i64 a, .int .i64 b, .int .i64 c, .bool yes] 31)).drew.cell? ⟨W.heap.size + 1, 5, none⟩ = some (.bool yes)) := Lib.hid ⟨bo.cell 0, bo.cell 1, bo.cell 2, bo.cell 3, bo.cell 4, bo.cell 5⟩
  have HBd := Lib.hid hbd
  have HC := Lib.hid (does_6 (v := v) (a := a) (b := b) (c := c) (yes := yes) hM hl hT hbd)
  clear hM hl hT hR hn s1 hb1 bl bo hbd hd
  go_enter Try.func33, Try.ntmps33
  go_wp2_with fail
  go_region_held3 (fun w => (w.cell? ⟨W.heap.size + 1, 0, none⟩ = some (.int .i64 6) ∧ w.cell? ⟨W.heap.size + 1, 1, none⟩ = some (.int .i64 v) ∧ w.cell? ⟨W.heap.size + 1, 2, none⟩ = some (.int .i64 a) ∧ w.cell? ⟨W.heap.size + 1, 3, none⟩ = some (.int .i64 b) ∧ w.cell? ⟨W.heap.size + 1, 4, none⟩ = some (.int .i64 c) ∧ w.cell? ⟨W.heap.size + 1, 5, none⟩ = some (.bool yes)))
    (first | (with_reducible exact K0.out))
    (first | (go_at_call 52; ((with_reducible refine (HAt.out _).mono ?_); rintro e w9 ⟨rfl, rfl⟩)))
  go_wp2_with (go_at_call 23; ((with_reducible refine HC.out.mono ?_); rintro e w3 ⟨x3, ev3, rfl, h3⟩))
  go_ret2
  exact ⟨x3, ev3, rfl, h3⟩
set_option maxRecDepth 100000 in
set_option maxHeartbeats 1600000 in
theorem doesw_7 {Al : Option Addr} {cp : Nat} (hM : Mg W own m lim L) (hl : lim ≤ 65536) (hT : ∀ j, j < n → Tells L (F j) (R j)) (hR : Ints W Al n R) (hn : n ≤ 100) : Calls Try.prog 33 #[.pointer (some ⟨m, 0, none⟩), .slice Al n cp, .agg #[.int .i64 7, .int .i64 v, .int .i64 a, .int .i64 b, .int .i64 c, .bool yes]] W (RetD n ⟨7, v, a, b, c, yes⟩ (opF ⟨7, v, a, b, c, yes⟩ (F a.toNat) (F b.toNat) (F c.toNat)) own m lim L W) := by
  have s1 := size_up (rfl : W.heap.size = W.heap.size) (.cells #[.slice Al n cp] 26)
  have hb1 : Below W.heap.size W ((W.alloc (.cells #[.slice Al n cp] 26)).alloc (.cells #[.int .i64 7, .int .i64 v, .int .i64 a, .int .i64 b, .int .i64 c, .bool yes] 31)) := ((Below.refl W.heap.size W).alloc (Nat.le_refl _) _).alloc (by rw [s1]; omega) _
  have bl := (Blk.new W 26 #[.slice Al n cp]).up (.cells #[.int .i64 7, .int .i64 v, .int .i64 a, .int .i64 b, .int .i64 c, .bool yes] 31)
  have bo := Blk.new_ s1 31 #[.int .i64 7, .int .i64 v, .int .i64 a, .int .i64 b, .int .i64 c, .bool yes]
  have hbd := hb1.drew
  have hd : Below ((W.alloc (.cells #[.slice Al n cp] 26)).alloc (.cells #[.int .i64 7, .int .i64 v, .int .i64 a, .int .i64 b, .int .i64 c, .bool yes] 31)).heap.size ((W.alloc (.cells #[.slice Al n cp] 26)).alloc (.cells #[.int .i64 7, .int .i64 v, .int .i64 a, .int .i64 b, .int .i64 c, .bool yes] 31)) ((W.alloc (.cells #[.slice Al n cp] 26)).alloc (.cells #[.int .i64 7, .int .i64 v, .int .i64 a, .int .i64 b, .int .i64 c, .bool yes] 31)).drew := (Below.refl _ _).drew
  have HAt := Lib.hid (fun kk => at1_any (w := ((W.alloc (.cells #[.slice Al n cp] 26)).alloc (.cells #[.int .i64 7, .int .i64 v, .int .i64 a, .int .i64 b, .int .i64 c, .bool yes] 31)).drew) (s := W.heap.size) ((bl.below hd bl.lt).cell 0) (hR.below hbd) hn kk)
  have K0 : Hid (((W.alloc (.cells #[.slice Al n cp] 26)).alloc (.cells #[.int .i64 7, .int .i64 v, .int .i64 a, .int .i64 b, .int .i64 c, .bool yes] 31)).drew.cell? ⟨W.heap.size + 1, 0, none⟩ = some (.int .i64 7) ∧ ((W.alloc (.cells #[.slice Al n cp] 26)).alloc (.cells #[.int .i64 7, .int .i64 v, .int .i64 a, .int .i64 b, .int .i64 c, .bool yes] 31)).drew.cell? ⟨W.heap.size + 1, 1, none⟩ = some (.int .i64 v) ∧ ((W.alloc (.cells #[.slice Al n cp] 26)).alloc (.cells #[.int .i64 7, .int .i64 v, .int .i64 a, .int .i64 b, .int .i64 c, .bool yes] 31)).drew.cell? ⟨W.heap.size + 1, 2, none⟩ = some (.int .i64 a) ∧ ((W.alloc (.cells #[.slice Al n cp] 26)).alloc (.cells #[.int .i64 7, .int .i64 v, .int .i64 a, .int .i64 b, .int .i64 c, .bool yes] 31)).drew.cell? ⟨W.heap.size + 1, 3, none⟩ = some (.int .i64 b) ∧ ((W.alloc (.cells #[.slice Al n cp] 26)).alloc (.cells #[.int .i64 7, .int .i64 v, .int .i64 a, .int .i64 b, .int .i64 c, .bool yes] 31)).drew.cell? ⟨W.heap.size + 1, 4, none⟩ = some (.int .i64 c) ∧ ((W.alloc (.cells #[.slice Al n cp] 26)).alloc (.cells #[.int .i64 7, .int .i64 v, .int .i64 a, .int .i64 b, .int .i64 c, .bool yes] 31)).drew.cell? ⟨W.heap.size + 1, 5, none⟩ = some (.bool yes)) := Lib.hid ⟨bo.cell 0, bo.cell 1, bo.cell 2, bo.cell 3, bo.cell 4, bo.cell 5⟩
  have HBd := Lib.hid hbd
  have HC := Lib.hid (does_7 (v := v) (a := a) (b := b) (c := c) (yes := yes) hM hl hT hbd)
  clear hM hl hT hR hn s1 hb1 bl bo hbd hd
  go_enter Try.func33, Try.ntmps33
  go_wp2_with fail
  go_region_held3 (fun w => (w.cell? ⟨W.heap.size + 1, 0, none⟩ = some (.int .i64 7) ∧ w.cell? ⟨W.heap.size + 1, 1, none⟩ = some (.int .i64 v) ∧ w.cell? ⟨W.heap.size + 1, 2, none⟩ = some (.int .i64 a) ∧ w.cell? ⟨W.heap.size + 1, 3, none⟩ = some (.int .i64 b) ∧ w.cell? ⟨W.heap.size + 1, 4, none⟩ = some (.int .i64 c) ∧ w.cell? ⟨W.heap.size + 1, 5, none⟩ = some (.bool yes)))
    (first | (with_reducible exact K0.out))
    (first | (go_at_call 52; ((with_reducible refine (HAt.out _).mono ?_); rintro e w9 ⟨rfl, rfl⟩)))
  go_wp2_with (go_at_call 29; ((with_reducible refine HC.out.mono ?_); rintro e w3 ⟨x3, ev3, rfl, h3⟩))
  go_ret2
  exact ⟨x3, ev3, rfl, h3⟩
set_option maxRecDepth 100000 in
set_option maxHeartbeats 1600000 in
theorem doesw_8 {Al : Option Addr} {cp : Nat} (hM : Mg W own m lim L) (hl : lim ≤ 65536) (hT : ∀ j, j < n → Tells L (F j) (R j)) (hR : Ints W Al n R) (hn : n ≤ 100) : Calls Try.prog 33 #[.pointer (some ⟨m, 0, none⟩), .slice Al n cp, .agg #[.int .i64 8, .int .i64 v, .int .i64 a, .int .i64 b, .int .i64 c, .bool yes]] W (RetD n ⟨8, v, a, b, c, yes⟩ (opF ⟨8, v, a, b, c, yes⟩ (F a.toNat) (F b.toNat) (F c.toNat)) own m lim L W) := by
  have s1 := size_up (rfl : W.heap.size = W.heap.size) (.cells #[.slice Al n cp] 26)
  have hb1 : Below W.heap.size W ((W.alloc (.cells #[.slice Al n cp] 26)).alloc (.cells #[.int .i64 8, .int .i64 v, .int .i64 a, .int .i64 b, .int .i64 c, .bool yes] 31)) := ((Below.refl W.heap.size W).alloc (Nat.le_refl _) _).alloc (by rw [s1]; omega) _
  have bl := (Blk.new W 26 #[.slice Al n cp]).up (.cells #[.int .i64 8, .int .i64 v, .int .i64 a, .int .i64 b, .int .i64 c, .bool yes] 31)
  have bo := Blk.new_ s1 31 #[.int .i64 8, .int .i64 v, .int .i64 a, .int .i64 b, .int .i64 c, .bool yes]
  have hbd := hb1.drew
  have hd : Below ((W.alloc (.cells #[.slice Al n cp] 26)).alloc (.cells #[.int .i64 8, .int .i64 v, .int .i64 a, .int .i64 b, .int .i64 c, .bool yes] 31)).heap.size ((W.alloc (.cells #[.slice Al n cp] 26)).alloc (.cells #[.int .i64 8, .int .i64 v, .int .i64 a, .int .i64 b, .int .i64 c, .bool yes] 31)) ((W.alloc (.cells #[.slice Al n cp] 26)).alloc (.cells #[.int .i64 8, .int .i64 v, .int .i64 a, .int .i64 b, .int .i64 c, .bool yes] 31)).drew := (Below.refl _ _).drew
  have HAt := Lib.hid (fun kk => at1_any (w := ((W.alloc (.cells #[.slice Al n cp] 26)).alloc (.cells #[.int .i64 8, .int .i64 v, .int .i64 a, .int .i64 b, .int .i64 c, .bool yes] 31)).drew) (s := W.heap.size) ((bl.below hd bl.lt).cell 0) (hR.below hbd) hn kk)
  have K0 : Hid (((W.alloc (.cells #[.slice Al n cp] 26)).alloc (.cells #[.int .i64 8, .int .i64 v, .int .i64 a, .int .i64 b, .int .i64 c, .bool yes] 31)).drew.cell? ⟨W.heap.size + 1, 0, none⟩ = some (.int .i64 8) ∧ ((W.alloc (.cells #[.slice Al n cp] 26)).alloc (.cells #[.int .i64 8, .int .i64 v, .int .i64 a, .int .i64 b, .int .i64 c, .bool yes] 31)).drew.cell? ⟨W.heap.size + 1, 1, none⟩ = some (.int .i64 v) ∧ ((W.alloc (.cells #[.slice Al n cp] 26)).alloc (.cells #[.int .i64 8, .int .i64 v, .int .i64 a, .int .i64 b, .int .i64 c, .bool yes] 31)).drew.cell? ⟨W.heap.size + 1, 2, none⟩ = some (.int .i64 a) ∧ ((W.alloc (.cells #[.slice Al n cp] 26)).alloc (.cells #[.int .i64 8, .int .i64 v, .int .i64 a, .int .i64 b, .int .i64 c, .bool yes] 31)).drew.cell? ⟨W.heap.size + 1, 3, none⟩ = some (.int .i64 b) ∧ ((W.alloc (.cells #[.slice Al n cp] 26)).alloc (.cells #[.int .i64 8, .int .i64 v, .int .i64 a, .int .i64 b, .int .i64 c, .bool yes] 31)).drew.cell? ⟨W.heap.size + 1, 4, none⟩ = some (.int .i64 c) ∧ ((W.alloc (.cells #[.slice Al n cp] 26)).alloc (.cells #[.int .i64 8, .int .i64 v, .int .i64 a, .int .i64 b, .int .i64 c, .bool yes] 31)).drew.cell? ⟨W.heap.size + 1, 5, none⟩ = some (.bool yes)) := Lib.hid ⟨bo.cell 0, bo.cell 1, bo.cell 2, bo.cell 3, bo.cell 4, bo.cell 5⟩
  have HBd := Lib.hid hbd
  have HC := Lib.hid (does_8 (v := v) (a := a) (b := b) (c := c) (yes := yes) hM hl hT hbd)
  clear hM hl hT hR hn s1 hb1 bl bo hbd hd
  go_enter Try.func33, Try.ntmps33
  go_wp2_with fail
  go_region_held3 (fun w => (w.cell? ⟨W.heap.size + 1, 0, none⟩ = some (.int .i64 8) ∧ w.cell? ⟨W.heap.size + 1, 1, none⟩ = some (.int .i64 v) ∧ w.cell? ⟨W.heap.size + 1, 2, none⟩ = some (.int .i64 a) ∧ w.cell? ⟨W.heap.size + 1, 3, none⟩ = some (.int .i64 b) ∧ w.cell? ⟨W.heap.size + 1, 4, none⟩ = some (.int .i64 c) ∧ w.cell? ⟨W.heap.size + 1, 5, none⟩ = some (.bool yes)))
    (first | (with_reducible exact K0.out))
    (first | (go_at_call 52; ((with_reducible refine (HAt.out _).mono ?_); rintro e w9 ⟨rfl, rfl⟩)))
  go_wp2_with (go_at_call 24; ((with_reducible refine HC.out.mono ?_); rintro e w3 ⟨x3, ev3, rfl, h3⟩))
  go_ret2
  exact ⟨x3, ev3, rfl, h3⟩
set_option maxRecDepth 100000 in
set_option maxHeartbeats 1600000 in
theorem doesw_none {k : Int} {G : Nat → Bool} {Al : Option Addr} {cp : Nat} (hk : ¬ (0 ≤ k ∧ k ≤ 8)) (hM : Mg W own m lim L) (_hl : lim ≤ 65536) (_hT : ∀ j, j < n → Tells L (F j) (R j)) (hR : Ints W Al n R) (hn : n ≤ 100) : Calls Try.prog 33 #[.pointer (some ⟨m, 0, none⟩), .slice Al n cp, .agg #[.int .i64 k, .int .i64 v, .int .i64 a, .int .i64 b, .int .i64 c, .bool yes]] W (RetD n ⟨k, v, a, b, c, yes⟩ G own m lim L W) := by
  have e0 : (k == 0) = false := by simp; omega
  have e1 : (k == 1) = false := by simp; omega
  have e2 : (k == 2) = false := by simp; omega
  have e3 : (k == 3) = false := by simp; omega
  have e4 : (k == 4) = false := by simp; omega
  have e5 : (k == 5) = false := by simp; omega
  have e6 : (k == 6) = false := by simp; omega
  have e7 : (k == 7) = false := by simp; omega
  have e8 : (k == 8) = false := by simp; omega
  have s1 := size_up (rfl : W.heap.size = W.heap.size) (.cells #[.slice Al n cp] 26)
  have hb1 : Below W.heap.size W ((W.alloc (.cells #[.slice Al n cp] 26)).alloc (.cells #[.int .i64 k, .int .i64 v, .int .i64 a, .int .i64 b, .int .i64 c, .bool yes] 31)) := ((Below.refl W.heap.size W).alloc (Nat.le_refl _) _).alloc (by rw [s1]; omega) _
  have bl := (Blk.new W 26 #[.slice Al n cp]).up (.cells #[.int .i64 k, .int .i64 v, .int .i64 a, .int .i64 b, .int .i64 c, .bool yes] 31)
  have bo := Blk.new_ s1 31 #[.int .i64 k, .int .i64 v, .int .i64 a, .int .i64 b, .int .i64 c, .bool yes]
  have hbd := hb1.drew
  have hd : Below ((W.alloc (.cells #[.slice Al n cp] 26)).alloc (.cells #[.int .i64 k, .int .i64 v, .int .i64 a, .int .i64 b, .int .i64 c, .bool yes] 31)).heap.size ((W.alloc (.cells #[.slice Al n cp] 26)).alloc (.cells #[.int .i64 k, .int .i64 v, .int .i64 a, .int .i64 b, .int .i64 c, .bool yes] 31)) ((W.alloc (.cells #[.slice Al n cp] 26)).alloc (.cells #[.int .i64 k, .int .i64 v, .int .i64 a, .int .i64 b, .int .i64 c, .bool yes] 31)).drew := (Below.refl _ _).drew
  have HAt := Lib.hid (fun kk => at1_any (w := ((W.alloc (.cells #[.slice Al n cp] 26)).alloc (.cells #[.int .i64 k, .int .i64 v, .int .i64 a, .int .i64 b, .int .i64 c, .bool yes] 31)).drew) (s := W.heap.size) ((bl.below hd bl.lt).cell 0) (hR.below hbd) hn kk)
  have K0 : Hid (((W.alloc (.cells #[.slice Al n cp] 26)).alloc (.cells #[.int .i64 k, .int .i64 v, .int .i64 a, .int .i64 b, .int .i64 c, .bool yes] 31)).drew.cell? ⟨W.heap.size + 1, 0, none⟩ = some (.int .i64 k) ∧ ((W.alloc (.cells #[.slice Al n cp] 26)).alloc (.cells #[.int .i64 k, .int .i64 v, .int .i64 a, .int .i64 b, .int .i64 c, .bool yes] 31)).drew.cell? ⟨W.heap.size + 1, 1, none⟩ = some (.int .i64 v) ∧ ((W.alloc (.cells #[.slice Al n cp] 26)).alloc (.cells #[.int .i64 k, .int .i64 v, .int .i64 a, .int .i64 b, .int .i64 c, .bool yes] 31)).drew.cell? ⟨W.heap.size + 1, 2, none⟩ = some (.int .i64 a) ∧ ((W.alloc (.cells #[.slice Al n cp] 26)).alloc (.cells #[.int .i64 k, .int .i64 v, .int .i64 a, .int .i64 b, .int .i64 c, .bool yes] 31)).drew.cell? ⟨W.heap.size + 1, 3, none⟩ = some (.int .i64 b) ∧ ((W.alloc (.cells #[.slice Al n cp] 26)).alloc (.cells #[.int .i64 k, .int .i64 v, .int .i64 a, .int .i64 b, .int .i64 c, .bool yes] 31)).drew.cell? ⟨W.heap.size + 1, 4, none⟩ = some (.int .i64 c) ∧ ((W.alloc (.cells #[.slice Al n cp] 26)).alloc (.cells #[.int .i64 k, .int .i64 v, .int .i64 a, .int .i64 b, .int .i64 c, .bool yes] 31)).drew.cell? ⟨W.heap.size + 1, 5, none⟩ = some (.bool yes)) := Lib.hid ⟨bo.cell 0, bo.cell 1, bo.cell 2, bo.cell 3, bo.cell 4, bo.cell 5⟩
  have HBd := Lib.hid hbd
  have HE : Hid (RetD n ⟨k, v, a, b, c, yes⟩ G own m lim L W (.returned (.tuple #[.int .i64 0, .iface 54 (.int .i64 1)])) ((W.alloc (.cells #[.slice Al n cp] 26)).alloc (.cells #[.int .i64 k, .int .i64 v, .int .i64 a, .int .i64 b, .int .i64 c, .bool yes] 31)).drew) := Lib.hid ⟨_, _, rfl, .inr ⟨fun hok => hk hok.1, own, rfl, hM.below hbd, Went.of_below hbd own⟩⟩
  clear hk
  clear hM _hl _hT hR hn s1 hb1 bl bo hbd hd
  go_enter Try.func33, Try.ntmps33
  go_wp2_with fail
  go_region_held3 (fun w => (w.cell? ⟨W.heap.size + 1, 0, none⟩ = some (.int .i64 k) ∧ w.cell? ⟨W.heap.size + 1, 1, none⟩ = some (.int .i64 v) ∧ w.cell? ⟨W.heap.size + 1, 2, none⟩ = some (.int .i64 a) ∧ w.cell? ⟨W.heap.size + 1, 3, none⟩ = some (.int .i64 b) ∧ w.cell? ⟨W.heap.size + 1, 4, none⟩ = some (.int .i64 c) ∧ w.cell? ⟨W.heap.size + 1, 5, none⟩ = some (.bool yes)))
    (first | (with_reducible exact K0.out))
    (first | (go_at_call 52; ((with_reducible refine (HAt.out _).mono ?_); rintro e w9 ⟨rfl, rfl⟩)))
  go_wp2_with fail
  go_ret2
  exact HE.out
theorem does_any {Al : Option Addr} {cp : Nat} (o : Opn) (hM : Mg W own m lim L) (hl : lim ≤ 65536) (hT : ∀ j, j < n → Tells L (F j) (R j)) (hR : Ints W Al n R) (hn : n ≤ 100) : Calls Try.prog 33 #[.pointer (some ⟨m, 0, none⟩), .slice Al n cp, opV o] W (RetD n o (opF o (F o.a.toNat) (F o.b.toNat) (F o.c.toNat)) own m lim L W) := by
  obtain ⟨k, v, a, b, c, yes⟩ := o
  by_cases hk : 0 ≤ k ∧ k ≤ 8
  · rcases (show k = 0 ∨ k = 1 ∨ k = 2 ∨ k = 3 ∨ k = 4 ∨ k = 5 ∨ k = 6 ∨ k = 7 ∨ k = 8 by omega) with rfl | rfl | rfl | rfl | rfl | rfl | rfl | rfl | rfl
    · exact doesw_0 hM hl hT hR hn
    · exact doesw_1 hM hl hT hR hn
    · exact doesw_2 hM hl hT hR hn
    · exact doesw_3 hM hl hT hR hn
    · exact doesw_4 hM hl hT hR hn
    · exact doesw_5 hM hl hT hR hn
    · exact doesw_6 hM hl hT hR hn
    · exact doesw_7 hM hl hT hR hn
    · exact doesw_8 hM hl hT hR hn
  · exact doesw_none hk hM hl hT hR hn
end
end Go.Proofs.Ytdgjbbcalffbcaa
