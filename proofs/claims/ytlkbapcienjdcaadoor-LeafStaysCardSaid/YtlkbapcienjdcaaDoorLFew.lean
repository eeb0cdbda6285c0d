/- The leaf layer: are there so few calls that all this ends soon? -/
import Derived.Test.YtlkbapcienjdcaaDoorLDoes
namespace Go.Proofs.YtlkbapcienjdcaaDoor
open Go.RowKit
attribute [local go_sem ↓] Go.wp_at_zero Go.wp_at_succ

/-- How many bounds and steps there are, in the first q calls. -/
def fewN (f : Nat → Opr) : Nat → Int
  | 0 => 0
  | q + 1 => wrap64 (fewN f q + wrap64 (((f q).mz : Int) + ((f q).ms : Int)))
def fewB (f : Nat → Opr) (k : Nat) : Bool := decide (k ≤ 40) && decide (fewN f k ≤ 2000)
set_option maxRecDepth 100000 in
set_option maxHeartbeats 1600000 in
theorem few_any {w : World} {A : Option Addr} {k c : Nat} {f : Nat → Opr} (hk : k ≤ 9223372036854775807) (h : OpRow w A k f) :
    Calls Tryd.prog 8 #[.slice A k c] w (RetB w (fewB f k)) := by
  have HR := Lib.hid h
  have HK := Lib.hid hk
  have HB0 := Lib.hid (Below.refl w.heap.size w)
  clear h hk
  go_enter Tryd.func8, Tryd.ntmps8
  go_wp2_with fail
  go_loopw [3, 8] (fun t i wr => ∃ (q : Nat), q ≤ k ∧ i = .int .i64 q ∧ t = .int .i64 (fewN f q) ∧ Below w.heap.size w wr) (fun _ i _ => k - (intOf i).toNat)
  case atStart => exact ⟨0, Nat.zero_le _, rfl, rfl, HB0.out⟩
  case round =>
    obtain ⟨q, hq, rfl, rfl, hb⟩ := hrel
    have HF := Lib.hid (show fewN f (q + 1) = wrap64 (fewN f q + wrap64 (((f q).mz : Int) + ((f q).ms : Int))) from rfl)
    obtain ⟨z, hz⟩ : ∃ z, fewN f q = z := ⟨_, rfl⟩
    rw [hz] at HF ⊢
    have HZ := Lib.hid hz
    clear hz
    have HQ := Lib.hid hq
    have HB := Lib.hid hb
    clear hq hb
    by_cases hlt : q < k
    · have e1 : decide ((q : Int) < (k : Int)) = true := decide_eq_true (by omega)
      have wq : IntKind.i64.wrap ((q : Int) + 1) = (q : Int) + 1 := IntWalk.i64_in _ (by have := HK.out; omega)
      obtain ⟨b', off, rfl, hbl, hcells⟩ := (HR.out.below HB.out) (by omega)
      obtain ⟨-, hc⟩ := hcells q hlt
      have c0 : wr.cell? ⟨b', off + q * 6, none⟩ = _ := hc 0 _ rfl
      have c1 := hc 1 _ rfl
      have c2 := hc 2 _ rfl
      have c3 := hc 3 _ rfl
      have c4 := hc 4 _ rfl
      have c5 := hc 5 _ rfl
      clear hcells hc
      obtain ⟨o, ho⟩ : ∃ o, f q = o := ⟨_, rfl⟩
      rw [ho] at c0 c1 c2 c3 c4 c5 HF
      obtain ⟨kd, a, b, N, Az, mz, cz, fz, As, ms, cs, fs⟩ := o
      dsimp only at c0 c1 c2 c3 c4 c5
      obtain ⟨⟨x0, x1, x2, x3, x4, x5⟩, hb1, hlt1⟩ := op_box wr kd a b N Az As mz cz ms cs _ rfl
      have HB1 := Lib.hid (HB.out.trans (hb1.mono HB.out.size))
      clear hb1 ho
      go_wp2_with fail
      exact ⟨⟨q + 1, by omega, rfl, by rw [HF.out], HB1.out⟩, by show k - ((q : Int) + 1).toNat < k - ((q : Int)).toNat; omega⟩
    · have e1 : decide ((q : Int) < (k : Int)) = false := decide_eq_false (by omega)
      have e3 : decide (q < k) = false := decide_eq_false hlt
      by_cases h40 : k ≤ 40
      · have e2 : decide ((k : Int) ≤ 40) = true := decide_eq_true (by omega)
        have H40 := Lib.hid h40
        have HLt := Lib.hid hlt
        clear h40 hlt
        go_wp2_with fail
        go_ret
        have hqk : q = k := by have := HQ.out; have := HLt.out; omega
        subst hqk
        refine ⟨?_, HB.out⟩
        unfold fewB
        rw [HZ.out, decide_eq_true H40.out]
        rfl
      · have e2 : decide ((k : Int) ≤ 40) = false := decide_eq_false (by omega)
        have H40 := Lib.hid h40
        clear h40 hlt
        go_wp2_with fail
        go_ret
        refine ⟨?_, HB.out⟩
        unfold fewB
        rw [decide_eq_false H40.out]
        rfl
end Go.Proofs.YtlkbapcienjdcaaDoor
