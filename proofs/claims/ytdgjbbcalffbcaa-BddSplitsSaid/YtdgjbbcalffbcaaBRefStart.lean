/- The document's Constant and Start. -/
import Derived.Test.YtdgjbbcalffbcaaBRefDoWalk
import Derived.Laws.MakeOwn
namespace Go.Proofs.Ytdgjbbcalffbcaa
open Go.RowKit
attribute [local go_sem ↓] Go.wp_at_zero Go.wp_at_succ

def RetTab (G : Nat → Bool) (W : World) (e : Ending) (w' : World) : Prop := ∃ g c, e = .returned (.slice (some ⟨g, 0, none⟩) 4096 c) ∧ Tab w' (.slice (some ⟨g, 0, none⟩) 4096 c) G ∧ W.heap.size ≤ g ∧ Below W.heap.size W w'
set_option maxRecDepth 100000 in
set_option maxHeartbeats 1600000 in
theorem constant_any (W : World) : Calls Try.prog 51 #[] W (RetTab (fun _ => true) W) := by
  have hinfo : (Try.prog.info? 4).map (fun i => (i.zero, i.size, i.bytes)) = some (some (.bool false), 1, 1) := by kernel_rfl
  obtain ⟨i0, hi, hz0, hz1, hz2⟩ := info_parts hinfo
  have HI0 := Lib.hid (And.intro hi (And.intro hz0 (And.intro hz1 hz2)))
  clear hinfo hi hz0 hz1 hz2
  go_enter Try.func51, Try.ntmps51
  go_wp2_with fail
  go_loopg [1, 2] 4096 (fun gk t1 t2 wr => ∃ j : Nat, j + gk = 4096 ∧ t2 = .int .i64 (j : Int) ∧ Below W.heap.size W wr ∧ wr.ownsRow W.heap.size 4 1 t1 j ((List.range j).map fun m => Value.bool ((fun _ => true) m)))
  case atStart => exact ⟨0, by omega, rfl, Below.refl _ _, World.ownsRow_nil _ _ _ _⟩
  case round =>
    rename Nat => g1
    obtain ⟨j, hj, rfl, hb, hown⟩ := hrel
    have HB := Lib.hid hb
    have HJ := Lib.hid hj
    by_cases hj4 : j < 4096
    · have HBd := Lib.hid (bool_bounds hj4)
      have HL4 := Lib.hid hb.size
      obtain ⟨hi, hz0, hz1, hz2⟩ := HI0.out
      clear hb hj
      go_wp2_with (first
        | (at_builtin; refine wpList_append_at rfl _ _ 34 rfl W.heap.size 4 i0 (.bool false) 1 1 Try.underlying34 hi hz0 hz1 hz2 rfl (by decide) _ _ _ rfl (hown.alloc _) ⟨wr.heap.size, 0, none⟩ 1 1 [.bool true] rfl rfl ?_ ?_ ?_ ?_ ?_ ?_; exact one_at _ _ _; exact one_bool _; exact HBd.out.1; exact HBd.out.2; exact Nat.le_trans HL4.out ((Below.refl wr.heap.size wr).alloc (Nat.le_refl _) _).size; intro v' w3 ho hg hv'; have H3 := Lib.hid (show Below W.heap.size W w3 from (HB.out.alloc HL4.out _).grown hg (HB.out.alloc HL4.out _).size (fun g e => (hown.lt g e).1)); have HO3 := Lib.hid ho; clear ho hg hv' hown))
      have hj := HJ.out
      go_roundg (g1 - 1)
      case measure => omega
      case rel => exact ⟨j + 1, by omega, by go_num, H3.out, by rw [row_snoc]; exact HO3.out⟩
    · obtain rfl : j = 4096 := by omega
      have HT4 := Lib.hid (tab_row hown)
      clear hb hown hj
      go_wp2_with fail
      go_ret
      obtain ⟨⟨g, c, rfl, hg⟩, hbk⟩ := HT4.out
      exact ⟨g, c, rfl, ⟨g, c, rfl, hg⟩, hbk g rfl, HB.out⟩
theorem made_bools : ∃ cs : Array Value, (∀ n, n < 4096 → cs[n]? = some (.bool false)) ∧ ∀ w, (Instr.makeSlice 33 (.int .i64 4096) (.int .i64 4096)).run Try.prog w = .ok (.slice (some ⟨w.heap.size, 0, none⟩) 4096 4096) (w.alloc (.cells cs 4)) := by
  have hinfo : (Try.prog.info? 4).map (fun i => (i.zero, i.size, i.bytes)) = some (some (.bool false), 1, 1) := by kernel_rfl
  obtain ⟨i0, hi, hz0, hz1, hz2⟩ := info_parts hinfo
  refine ⟨madeCells #[.bool false] (4096 * 1), ?_, fun w => ?_⟩
  · intro n hn
    unfold madeCells
    simp [hn, Nat.mod_one]
  · have := run_makeSlice (P := Try.prog) w 33 4 i0 (.bool false) Try.underlying33 hi hz0 .i64 .i64 4096 4096 (by omega) (Int.le_refl _) (by rw [hz1]; omega) (by rw [hz2]; omega) (by omega)
    rw [hz1] at this
    simpa [Value.cells] using this
theorem tab_blk {w : World} {g c : Nat} {t : TypeId} {cs : Array Value} {F : Nat → Bool} (h : Blk w g t cs) (hc : ∀ n, n < 4096 → cs[n]? = some (.bool (F n))) : Tab w (.slice (some ⟨g, 0, none⟩) 4096 c) F :=
  ⟨g, c, rfl, h.lt, fun n hn => (h.cell n).trans (hc n hn)⟩
/-- The row of the two first functions. -/
def RetStart (W : World) (e : Ending) (w' : World) : Prop := ∃ g c v0 v1, e = .returned (.slice (some ⟨g, 0, none⟩) 2 c) ∧ Tab w' v0 (fun _ => false) ∧ Tab w' v1 (fun _ => true) ∧ (∀ k, v0.ownBlock = some k → W.heap.size ≤ k) ∧ (∀ k, v1.ownBlock = some k → W.heap.size ≤ k) ∧ w'.ownsRow W.heap.size 34 1 (.slice (some ⟨g, 0, none⟩) 2 c) 2 [v0, v1] ∧ Below W.heap.size W w'
theorem start_done {W w : World} {g0 c0 g1 c1 : Nat} (h0 : Tab w (.slice (some ⟨g0, 0, none⟩) 4096 c0) (fun _ => false)) (h1 : Tab w (.slice (some ⟨g1, 0, none⟩) 4096 c1) (fun _ => true)) (k0 : W.heap.size ≤ g0) (k1 : W.heap.size ≤ g1) (hb : Below W.heap.size W w) :
    RetStart W (.returned (.slice (some ⟨w.heap.size, 0, none⟩) 2 2)) (w.alloc (.cells #[.slice (some ⟨g0, 0, none⟩) 4096 c0, .slice (some ⟨g1, 0, none⟩) 4096 c1] 34)) := by
  have hb2 : Below w.heap.size w (w.alloc (.cells #[.slice (some ⟨g0, 0, none⟩) 4096 c0, .slice (some ⟨g1, 0, none⟩) 4096 c1] 34)) := (Below.refl _ _).alloc (Nat.le_refl _) _
  refine ⟨w.heap.size, 2, _, _, rfl, h0.below hb2, h1.below hb2, fun k hk => ?_, fun k hk => ?_, ?_, hb.trans (hb2.mono hb.size)⟩
  · have : g0 = k := by simpa [Value.ownBlock] using hk
    omega
  · have : g1 = k := by simpa [Value.ownBlock] using hk
    omega
  · exact World.ownsRow_lit (base := W.heap.size) (e := 34) (size := 1) w #[.slice (some ⟨g0, 0, none⟩) 4096 c0, .slice (some ⟨g1, 0, none⟩) 4096 c1] 2 hb.size (by unfold maxLen; omega) (by simp)
set_option maxRecDepth 100000 in
set_option maxHeartbeats 1600000 in
theorem start_row (W : World) : Calls Try.prog 32 #[] W (RetStart W) := by
  obtain ⟨cs, hcs, hmk⟩ := made_bools
  have HC := Lib.hid (fun w => constant_any w)
  have HCS := Lib.hid hcs
  clear hcs
  go_enter Try.func32, Try.ntmps32
  go_wp2_with fail
  go_region_with (go_at_call 51; ((with_reducible refine (HC.out _).mono ?_); rintro e w1 ⟨g1, c1, rfl, h1, k1, hb1⟩))
  · go_wp2_with fail
    go_ret
    have hB := (Blk.new W 4 cs).below ((Below.refl _ _).drew) (Blk.new W 4 cs).lt
    have hb0 : Below W.heap.size W (W.alloc (.cells cs 4)).drew := ((Below.refl _ _).alloc (Nat.le_refl _) _).drew
    exact start_done (tab_blk (hB.below hb1 hB.lt) HCS.out) h1 (Nat.le_refl _) (Nat.le_trans hb0.size k1) (hb0.trans (hb1.mono hb0.size))
  · go_wp2_with fail
    go_ret
    have hb0 : Below W.heap.size W W.drew := (Below.refl _ _).drew
    have hb2 : Below w1.heap.size w1 (w1.alloc (.cells cs 4)) := (Below.refl _ _).alloc (Nat.le_refl _) _
    have hbW := hb0.trans (hb1.mono hb0.size)
    have := start_done (tab_blk (Blk.new w1 4 cs) HCS.out (c := 4096)) (h1.below hb2) hbW.size (Nat.le_trans hb0.size k1) (hbW.trans (hb2.mono hbW.size))
    rw [World.size_alloc] at this
    exact this
end Go.Proofs.Ytdgjbbcalffbcaa
