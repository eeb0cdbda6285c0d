/- The contract of Mk. -/
import Derived.Test.YtlddelnbjihhgaaDoorNSpread
namespace Go.Proofs.YtlddelnbjihhgaaDoor
open Go.RowKit
attribute [local go_sem ↓] Go.wp_at_zero Go.wp_at_succ

/-- An arena. -/
def Arena (W : World) (own : Nat → Prop) (p lim : Nat) (L : List Nd) : Prop :=
  ∃ (P : Nat) (T : Nat → Nat) (An Ap : Option Addr) (cn cp : Nat), ArenaR W own p lim L P T An Ap cn cp ∧ Inv P T L (stP P) L.length ∧ (2 * L.length ≤ P ∧ P % 2 = 0 ∧ P ≤ 16 + 4 * L.length) ∧ RightL L
theorem Arena.below {W W1 : World} {own : Nat → Prop} {p lim : Nat} {L : List Nd} (h : Arena W own p lim L) (hb : Below W.heap.size W W1) : Arena W1 own p lim L := by
  obtain ⟨P, T, An, Ap, cn, cp, hR, h⟩ := h
  exact ⟨P, T, An, Ap, cn, cp, hR.below hb, h⟩
/-- What an error is: none; or a Fault of its own. -/
def ErrIs (W : World) (B : Nat) (v c : Int) (ev : Value) : Prop :=
  (c = 0 ∧ ev = .nilIface) ∨ (c ≠ 0 ∧ ∃ b, B ≤ b ∧ ev = .iface 165 (.pointer (some ⟨b, 0, none⟩)) ∧ Blk W b 167 #[.string ⟨#[109, 107]⟩, .int .i64 v, .iface 53 (.int .i64 c)])
def RetMk (own : Nat → Prop) (p lim : Nat) (L : List Nd) (v lo hi : Int) (w : World) (e : Ending) (w' : World) : Prop :=
  ∃ (ev : Value) (own' : Nat → Prop), e = .returned (.tuple #[.int .i64 (mkP lim L v lo hi).2.1, ev]) ∧ ErrIs w' w.heap.size v (mkP lim L v lo hi).2.2 ev ∧ Arena w' own' p lim (mkP lim L v lo hi).1 ∧ Only own w w' ∧ ∀ i, own' i → own i ∨ w.heap.size ≤ i

section
variable {W : World} {own : Nat → Prop} {p lim P cn cp : Nat} {L : List Nd} {T : Nat → Nat} {An Ap : Option Addr} {v lo hi : Int}
theorem spread_any (h : ArenaR W own p lim L P T An Ap cn cp) (hI : Inv P T L (stP P) L.length) (hP : 2 * L.length ≤ P ∧ P % 2 = 0 ∧ P ≤ 16 + 4 * L.length) (hu : RightL L) :
    Calls Tryd.prog 103 #[.pointer (some ⟨p, 0, none⟩)] W (RetSpread own p lim L An cn W) := by
  have := h.few
  by_cases hlt : 2 * L.length < P
  · exact spread_not h hI hlt hP.2.2 hP.2.1
  · exact spread_yes h hu (by omega) (by omega)
theorem ret_fault {c : Int} {e : Ending} {w1 : World} (hA : Arena W own p lim L) (hc : c ≠ 0) (hm : mkP lim L v lo hi = (L, 0, c)) (hf : RetFault v c W e w1) :
    RetMk own p lim L v lo hi W (.returned (.tuple #[.int .i64 0, .iface 165 (.pointer (some ⟨W.heap.size, 0, none⟩))])) w1 := by
  obtain ⟨-, hb, -, hbl⟩ := hf
  unfold RetMk
  rw [hm]
  exact ⟨_, own, rfl, .inr ⟨hc, W.heap.size, Nat.le_refl _, rfl, hb⟩, hA.below hbl, Only.of_below hbl own, fun i hi => .inl hi⟩
set_option maxHeartbeats 800000 in
theorem mk_var (hA : Arena W own p lim L) (hv : v < 0 ∨ 12 ≤ v) :
    Calls Tryd.prog 65 #[.pointer (some ⟨p, 0, none⟩), .int .i64 v, .int .i64 lo, .int .i64 hi] W (RetMk own p lim L v lo hi W) := by
  have hm : mkP lim L v lo hi = (L, 0, 52) := by unfold mkP; rw [if_pos hv]
  have HM := Lib.hid (fun (e : Ending) (w1 : World) (hf : RetFault v 52 W e w1) => ret_fault (lo := lo) (hi := hi) hA (by decide) hm hf)
  clear hA hm
  by_cases h0 : v < 0
  · clear hv
    go_enter Tryd.func65, Tryd.ntmps65
    go_wp2_with (first
      | (go_at_call 101; ((with_reducible refine (fault_any _ _ _).mono ?_); rintro e w1 hf); have HF := Lib.hid (HM.out _ _ hf); obtain ⟨rfl, -⟩ := hf))
    go_ret2
    exact HF.out
  · have h12 : 12 ≤ v := by omega
    clear hv
    go_enter Tryd.func65, Tryd.ntmps65
    go_wp2_with (first
      | (go_at_call 101; ((with_reducible refine (fault_any _ _ _).mono ?_); rintro e w1 hf); have HF := Lib.hid (HM.out _ _ hf); obtain ⟨rfl, -⟩ := hf))
    go_ret2
    exact HF.out
set_option maxHeartbeats 800000 in
theorem mk_order (hA : Arena W own p lim L) (h0 : 0 ≤ v) (h12 : v < 12) (hc : ¬ (hasP L.length lo = true ∧ v < varP L lo) ∨ ¬ (hasP L.length hi = true ∧ v < varP L hi)) :
    Calls Tryd.prog 65 #[.pointer (some ⟨p, 0, none⟩), .int .i64 v, .int .i64 lo, .int .i64 hi] W (RetMk own p lim L v lo hi W) := by
  have hm : mkP lim L v lo hi = (L, 0, 51) := by unfold mkP; rw [if_neg (by omega), if_pos hc]
  have HM := Lib.hid (fun (e : Ending) (w1 : World) (hf : RetFault v 51 W e w1) => ret_fault (lo := lo) (hi := hi) hA (by decide) hm hf)
  obtain ⟨P, T, An, Ap, cn, cp, hR, -⟩ := hA
  have H1 := Lib.hid (belowA_any (v := v) (r := lo) hR)
  have H2 := Lib.hid (belowA_any (v := v) (r := hi) hR)
  clear hR hm
  have g0 : ¬ v < 0 := by omega
  have g1 : ¬ 12 ≤ v := by omega
  cases hb : (hasP L.length lo && decide (v < varP L lo))
  · rw [hb] at H1
    clear hc hb
    go_enter Tryd.func65, Tryd.ntmps65
    go_wp2_with (first
      | (go_at_call 102; ((with_reducible refine H1.out.mono ?_); rintro e w1 ⟨rfl, rfl⟩))
      | (go_at_call 101; ((with_reducible refine (fault_any _ _ _).mono ?_); rintro e w1 hf); have HF := Lib.hid (HM.out _ _ hf); obtain ⟨rfl, -⟩ := hf))
    go_ret2
    exact HF.out
  · have hb2 : (hasP L.length hi && decide (v < varP L hi)) = false := by
      rw [Bool.and_eq_true, decide_eq_true_eq] at hb
      rcases hc with hc | hc
      · exact absurd hb hc
      · cases h : (hasP L.length hi && decide (v < varP L hi))
        · rfl
        · rw [Bool.and_eq_true, decide_eq_true_eq] at h; exact absurd h hc
    rw [hb] at H1
    rw [hb2] at H2
    clear hc hb hb2
    go_enter Tryd.func65, Tryd.ntmps65
    go_wp2_with (first
      | (go_at_call 102; ((with_reducible refine H1.out.mono ?_); rintro e w1 ⟨rfl, rfl⟩))
      | (go_at_call 102; ((with_reducible refine H2.out.mono ?_); rintro e w1 ⟨rfl, rfl⟩))
      | (go_at_call 101; ((with_reducible refine (fault_any _ _ _).mono ?_); rintro e w1 hf); have HF := Lib.hid (HM.out _ _ hf); obtain ⟨rfl, -⟩ := hf))
    go_ret2
    exact HF.out
set_option maxHeartbeats 800000 in
theorem mk_like (hA : Arena W own p lim L) (h0 : 0 ≤ v) (h12 : v < 12) (hc : hasP L.length lo = true ∧ v < varP L lo) (he : lo = hi) :
    Calls Tryd.prog 65 #[.pointer (some ⟨p, 0, none⟩), .int .i64 v, .int .i64 lo, .int .i64 hi] W (RetMk own p lim L v lo hi W) := by
  subst he
  have hm : mkP lim L v lo lo = (L, lo, 0) := by unfold mkP; rw [if_neg (by omega), if_neg (by simp [hc]), if_pos rfl]
  have HA := Lib.hid hA
  have HM := Lib.hid hm
  obtain ⟨P, T, An, Ap, cn, cp, hR, -⟩ := hA
  have H1 := Lib.hid (belowA_any (v := v) (r := lo) hR)
  have hb : (hasP L.length lo && decide (v < varP L lo)) = true := by rw [Bool.and_eq_true, decide_eq_true_eq]; exact hc
  rw [hb] at H1
  have g0 : ¬ v < 0 := by omega
  have g1 : ¬ 12 ≤ v := by omega
  clear hR hm hb hc
  go_enter Tryd.func65, Tryd.ntmps65
  go_wp2_with (first
    | (go_at_call 102; ((with_reducible refine H1.out.mono ?_); rintro e w1 ⟨rfl, rfl⟩)))
  go_ret2
  unfold RetMk
  rw [HM.out]
  exact ⟨_, own, rfl, .inl ⟨rfl, rfl⟩, HA.out, Only.refl _ _, fun i hi => .inl hi⟩
end
end Go.Proofs.YtlddelnbjihhgaaDoor
