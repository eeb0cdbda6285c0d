/- The contract of says. -/
import Derived.Test.YtdgjbbcalffbcaaBRefDoWalk
import Derived.Test.YtdgjbbcalffbcaaBAlive
namespace Go.Proofs.Ytdgjbbcalffbcaa
open Go.RowKit
attribute [local go_sem ↓] Go.wp_at_zero Go.wp_at_succ

section
variable {W : World} {own : Nat → Prop} {m lim : Nat} {L : List Nd}
def RetIs (x : Bool) (own : Nat → Prop) (m lim : Nat) (L : List Nd) (W : World) (e : Ending) (w' : World) : Prop := ∃ own' : Nat → Prop, e = .returned (.bool x) ∧ Mg w' own' m lim L ∧ Went own W own' w'
set_option maxRecDepth 100000 in
set_option maxHeartbeats 1600000 in
theorem says_any (hM : Mg W own m lim L) {tv : Value} {F : Nat → Bool} {r : Int} (hT : Tab W tv F) (ht : Tells L F r) : Calls Try.prog 13 #[.pointer (some ⟨m, 0, none⟩), .int .i64 r, tv] W (RetIs true own m lim L W) := by
  have HI := Lib.hid (fun w (hb : Below W.heap.size W w) => isB_yes (hM.below hb) ht.1)
  have HV : Hid (∀ w b, Below W.heap.size W w → b < 4096 → Calls Try.prog 17 #[.pointer (some ⟨m, 0, none⟩), .int .i64 r, .int .u64 (b : Nat)] w fun e w' => e = .returned (.bool (F b)) ∧ Below w.heap.size w w') := Lib.hid fun w b hb hb4 => by
    have := eval_any (hM.below hb) r (b := b) (by omega)
    rw [ht.2] at this
    exact this
  obtain ⟨g, c, rfl, hg, hc⟩ := hT
  have HT : Hid (∀ w, Below W.heap.size W w → ∀ j, j < 4096 → w.cell? ⟨g, j, none⟩ = some (.bool (F j))) := Lib.hid fun w hb j hj => (hb.cell (p := ⟨g, j, none⟩) hg).trans (hc j hj)
  clear hM ht hc
  go_enter Try.func13, Try.ntmps13
  go_wp2_with fail
  go_loopg [11] 4096 (fun gk t11 wr => ∃ j : Nat, j + gk = 4096 ∧ t11 = .int .i64 (j : Int) ∧ Below W.heap.size W wr)
  case atStart => exact ⟨0, by omega, rfl, Below.refl _ _⟩
  case round =>
    obtain ⟨j, hj, rfl, hb⟩ := hrel
    have HB := Lib.hid hb
    by_cases hj4 : j < 4096
    · have cj := HT.out wr hb j hj4
      obtain ⟨x, hx⟩ : ∃ x, F j = x := ⟨_, rfl⟩
      have HC := Lib.hid (HV.out wr j hb hj4)
      rw [hx] at cj HC
      clear hb hx
      cases x
      all_goals
        go_wp2_with (go_at_call 17; ((with_reducible refine HC.out.mono ?_); rintro e w1 ⟨rfl, hb1⟩); have H1 := Lib.hid (HB.out.trans (hb1.mono HB.out.size)); clear hb1)
        go_roundg (gk - 1)
        case measure => omega
        case rel => exact ⟨j + 1, by omega, by go_num, H1.out⟩
    · obtain rfl : j = 4096 := by omega
      clear hb
      go_wp2_with (go_at_call 27; ((with_reducible refine (HI.out _ HB.out).mono ?_); rintro e w1 ⟨own1, rfl, m1, q1⟩))
      go_ret
      exact ⟨own1, rfl, m1, (Went.of_below HB.out own).trans q1⟩
end
end Go.Proofs.Ytdgjbbcalffbcaa
