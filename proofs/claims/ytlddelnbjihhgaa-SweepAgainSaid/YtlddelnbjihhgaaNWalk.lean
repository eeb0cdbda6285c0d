/- The contract of Walk. -/
import Derived.Test.YtlddelnbjihhgaaNMkAny
import Derived.Laws.Bits64b
namespace Go.Proofs.Ytlddelnbjihhgaa
open Go.RowKit
attribute [local go_sem ↓] Go.wp_at_zero Go.wp_at_succ

theorem bit_at (b v : Nat) (hb : b < 18446744073709551616) : (bits BinOp.and IntKind.u64 ((b : Int) / 2 ^ v) 1 == 1) = b.testBit v := by
  have e : (b : Int) / 2 ^ v = ((b / 2 ^ v : Nat) : Int) := by
    rw [Int.natCast_ediv, Int.natCast_pow]; rfl
  have hlt : b / 2 ^ v < 18446744073709551616 := Nat.lt_of_le_of_lt (Nat.div_le_self _ _) hb
  rw [e, show (1 : Int) = ((1 : Nat) : Int) from rfl, bits_and_u64_nat _ 1 hlt (by omega), Nat.and_one_is_mod, Nat.testBit_eq_decide_div_mod_eq, Bool.eq_iff_iff]
  simp
  omega
section
variable {W : World} {own : Nat → Prop} {p lim P cn cp : Nat} {L : List Nd} {T : Nat → Nat} {An Ap : Option Addr}
set_option maxRecDepth 100000 in
set_option maxHeartbeats 800000 in
theorem walkA_any {r : Int} {b : Nat} (h : ArenaR W own p lim L P T An Ap cn cp) (hu : RightL L) (hbb : b < 18446744073709551616) :
    Calls Try.prog 12 #[.pointer (some ⟨p, 0, none⟩), .int .i64 r, .int .u64 (b : Int)] W fun e w' => e = .returned (.int .i64 (endP L b r)) ∧ Below W.heap.size W w' := by
  have HA := Lib.hid h
  have HU := Lib.hid hu
  have hfew := h.few
  clear h hu
  go_enter Try.func12, Try.ntmps12
  go_wp2_with fail
  go_loopg [1] (r + 1).toNat (fun k t1 wr => ∃ s : Int, t1 = .int .i64 s ∧ (s + 1).toNat ≤ k ∧ endP L b s = endP L b r ∧ Below W.heap.size W wr)
  case atStart => exact ⟨r, rfl, Nat.le_refl _, rfl, Below.refl _ _⟩
  case round =>
    obtain ⟨s, rfl, hk, he, hb⟩ := hrel
    have HE := Lib.hid he
    have HB := Lib.hid hb
    have HH := Lib.hid (holds_any (r := s) (HA.out.below hb).c1)
    have HK := Lib.hid hk
    clear he hb hk
    cases hh : holdsB L.length s
    · rw [hh] at HH
      have HO := Lib.hid hh
      clear hh
      go_wp2_with (go_at_call 24; ((with_reducible refine HH.out.mono ?_); rintro e w1 ⟨rfl, rfl⟩))
      go_ret
      have hout : ¬ (0 ≤ s ∧ s < (L.length : Int)) := by
        have := HO.out
        unfold holdsB at this
        simp at this
        omega
      have es : endP L b r = s := by rw [← HE.out, endP_out hout]
      rw [es]
      exact ⟨rfl, HB.out⟩
    · obtain ⟨k, x, hs, hx, -⟩ := holds_at hh
      rw [hh] at HH
      subst hs
      obtain ⟨gn, hAn, hkl, n0, n1, n2⟩ := (HA.out.below HB.out).node hx
      have c1 := (HA.out.below HB.out).c1
      rw [hAn] at c1
      have hv := (HU.out.1 k x hx).1
      obtain ⟨v, hvv⟩ : ∃ v : Nat, x.1 = (v : Int) := ⟨x.1.toNat, by omega⟩
      rw [hvv] at n0 hv
      have HX := Lib.hid hx
      have HV := Lib.hid hvv
      have hbit := bit_at b v hbb
      have hend := endP_node HU.out b hx
      rw [hvv] at hend
      have hend : endP L b (k : Int) = endP L b (if b.testBit v = true then x.2.2 else x.2.1) := hend
      obtain ⟨-, -, ⟨q1, -⟩, q2, -⟩ := HU.out.1 k x hx
      rw [hasP_iff] at q1 q2
      have hk1 := HK.out
      have HQ : Hid ((x.2.1 + 1).toNat ≤ gk - 1 ∧ (x.2.2 + 1).toNat ≤ gk - 1 ∧ gk - 1 < gk) := Lib.hid (by omega)
      cases ht : b.testBit v
      all_goals
        rw [ht] at hbit hend
        have HEnd := Lib.hid hend
        clear hend
      all_goals clear hh hAn hx hvv ht q1 q2 hk1
      all_goals go_wp2_with (go_at_call 24; ((with_reducible refine HH.out.mono ?_); rintro e w1 ⟨rfl, rfl⟩))
      · go_roundg (gk - 1)
        case measure => exact HQ.out.2.2
        case rel => exact ⟨_, rfl, HQ.out.1, HEnd.out.symm.trans HE.out, HB.out.trans (((Below.refl _ wr).alloc (Nat.le_refl _) _).mono HB.out.size)⟩
      · go_roundg (gk - 1)
        case measure => exact HQ.out.2.2
        case rel => exact ⟨_, rfl, HQ.out.2.1, HEnd.out.symm.trans HE.out, HB.out.trans (((Below.refl _ wr).alloc (Nat.le_refl _) _).mono HB.out.size)⟩
end
end Go.Proofs.Ytlddelnbjihhgaa
