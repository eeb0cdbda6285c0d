/- The contracts of known, named, Right, and the top. -/
import Derived.Test.YtlddelnbjihhgaaGreatDoorEqual
namespace Go.Proofs.YtlddelnbjihhgaaGreatDoor
open Go.RowKit
attribute [local go_sem ↓] Go.wp_at_zero Go.wp_at_succ

def knownB (n i : Int) : Bool := decide (0 ≤ i) && decide (i ≤ n)
def namedB (n i : Int) : Bool := decide (1 ≤ i) && decide (i ≤ n)
set_option maxRecDepth 100000 in
theorem known_any (n i : Int) (A : Option Addr) (len cap : Nat) (w : World) : Calls Tryz.prog 45 #[zoneV n A len cap, .int .i64 i] w (RetB w (knownB n i)) := by
  unfold knownB
  have hb := zboxed w (.cells #[.int .i64 n, .slice A len cap] 32)
  cases h0 : decide (0 ≤ i)
  · go_enter Tryz.func45, Tryz.ntmps45
    go_wp2_with fail
    go_ret
    exact ⟨rfl, hb⟩
  · cases h1 : decide (i ≤ n)
    · go_enter Tryz.func45, Tryz.ntmps45
      go_wp2_with fail
      go_ret
      exact ⟨rfl, hb⟩
    · go_enter Tryz.func45, Tryz.ntmps45
      go_wp2_with fail
      go_ret
      exact ⟨rfl, hb⟩
set_option maxRecDepth 100000 in
theorem named_any (n i : Int) (A : Option Addr) (len cap : Nat) (w : World) : Calls Tryz.prog 36 #[zoneV n A len cap, .int .i64 i] w (RetB w (namedB n i)) := by
  unfold namedB
  have hb := zboxed w (.cells #[.int .i64 n, .slice A len cap] 32)
  cases h0 : decide (1 ≤ i)
  · go_enter Tryz.func36, Tryz.ntmps36
    go_wp2_with fail
    go_ret
    exact ⟨rfl, hb⟩
  · cases h1 : decide (i ≤ n)
    · go_enter Tryz.func36, Tryz.ntmps36
      go_wp2_with fail
      go_ret
      exact ⟨rfl, hb⟩
    · go_enter Tryz.func36, Tryz.ntmps36
      go_wp2_with fail
      go_ret
      exact ⟨rfl, hb⟩

set_option maxRecDepth 100000 in
set_option maxHeartbeats 1600000 in
/-- Right of a right one. -/
theorem right_right {w : World} {A : Option Addr} {c m base : Nat} {R R2 : Option Mat} (h0 : 0 < m) (h7 : m ≤ 7) (hz : ZRes w base m R (zoneV ((m : Int) - 1) A (rlen m R) c)) (hbase : base ≤ w.heap.size)
    (K : ∀ W, Below w.heap.size w W → Calls Tryz.prog 34 #[zoneV ((m : Int) - 1) A (rlen m R) c] W (RetC W m R2)) :
    Calls Tryz.prog 18 #[zoneV ((m : Int) - 1) A (rlen m R) c] w (RetB w (sameO m m R R2)) := by
  have HD := Lib.hid ((Duo.new w 32 (.int .i64 ((m : Int) - 1)) (.slice A (rlen m R) c)))
  have HB := Lib.hid (zboxed w (.cells #[.int .i64 ((m : Int) - 1), .slice A (rlen m R) c] 32))
  have HZ := Lib.hid hz
  have HK := Lib.hid K
  clear hz K
  go_enter Tryz.func18, Tryz.ntmps18
  go_wp2_with fail
  have k0 := HD.out.cell0
  have k1 := HD.out.cell1
  have HB0 := Lib.hid HB.out.drew
  have HD2 : Hid (Duo (w.alloc (.cells #[.int .i64 ((m : Int) - 1), .slice A (rlen m R) c] 32)).drew w.heap.size 32 (.int .i64 ((m : Int) - 1)) (.slice A (rlen m R) c)) := Lib.hid HD.out
  go_region_with (first
    | (go_at_call 34; ((with_reducible refine (HK.out _ HB0.out).mono ?_); rintro e w1 ⟨A1, c1, rfl, hz1, hb1⟩); have HB1 := Lib.hid (HB0.out.trans (hb1.mono HB0.out.size)); have x1 := HD2.out.below hb1; have y0 := x1.cell0; have y1 := x1.cell1; have z1 := HZ.out.below HB1.out; have z2 := hz1.lower (Nat.le_trans hbase HB0.out.size))
    | (go_at_call 55; ((with_reducible refine (equal_any h0 h7 z1 z2).mono ?_); rintro e w3 ⟨rfl, hb3⟩)))
  all_goals go_wp2_with fail
  all_goals go_ret
  all_goals exact ⟨rfl, HB1.out.trans (hb3.mono HB1.out.size)⟩

set_option maxRecDepth 100000 in
set_option maxHeartbeats 1600000 in
/-- The zone of all points. -/
theorem top_any (m : Nat) (hm7 : m ≤ 7) (h0m : 0 < m) (w : World) : Calls Tryz.prog 27 #[.int .i64 ((m : Int) - 1)] w (RetC w m (some far)) := by
  have hmay := (zm_of h0m hm7).1
  have HT := Lib.hid (Duo.new w 32 (.int .i64 0) (.slice none 0 0))
  have HB := Lib.hid (zboxed w (.cells #[.int .i64 0, .slice none 0 0] 32))
  go_enter Tryz.func27, Tryz.ntmps27
  go_wp2_with (go_at_call 66; ((with_reducible refine (may_any _ _).mono ?_); rintro e w' ⟨rfl, rfl⟩))
  refine (fill_any 67 #[] m hm7 h0m far _ (enters_of Tryz.func67 (by kernel_rfl) rfl) (fun i j W hi hj _ => (far_any i j (by omega) (by omega) W).mono (by rintro e w' ⟨rfl, rfl⟩; exact ⟨rfl, Below.refl _ _⟩))).mono ?_
  rintro e w2 ⟨v2, rfl, ho2, hb2⟩
  obtain ⟨g, c2, rfl⟩ := own_slice ho2 (Nat.mul_pos h0m h0m)
  have hg2 := (ho2.lt g rfl).1
  simp only [World.size_alloc] at hg2
  have hD2 := HT.out.below hb2
  have HB2 := Lib.hid (HB.out.trans (hb2.mono HB.out.size))
  have HO2 := Lib.hid ho2
  have d0 := hD2.cell0
  have d1 := hD2.cell1
  have f0 := hD2.frozen0
  have f1 := hD2.frozen1
  clear hb2 ho2
  go_wp2_with fail
  refine post_cell (rb := w.heap.size) Tryz.results27 rfl rfl ((hD2.set0 _).set1 _) ⟨_, c2, rfl, ⟨⟨fun i _ => far_same i, fun i j _ _ => Int.le_refl _, fun k i j _ _ _ => far_tri i j k⟩, g, c2, rfl, ?_⟩, (HB2.out.setCell (p := ⟨w.heap.size, 0, none⟩) (by simp) _).setCell (p := ⟨w.heap.size, 1, none⟩) (by simp) _⟩
  exact own_lower ((HO2.out.kept (duo_grown_setCell _ _ _) (.inr (by simp [Value.ownBlock]; omega))).kept (duo_grown_setCell _ _ _) (.inr (by simp [Value.ownBlock]; omega))) (by simp <;> omega)
end Go.Proofs.YtlddelnbjihhgaaGreatDoor
