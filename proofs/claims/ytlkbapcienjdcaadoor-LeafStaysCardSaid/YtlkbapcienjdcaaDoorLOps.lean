/- The leaf layer: Join, Meet, Widen of a table. -/
import Derived.Test.YtlkbapcienjdcaaDoorLBothM
import Derived.Test.YtlkbapcienjdcaaDoorLBothW
import Derived.Test.YtlkbapcienjdcaaDoorGWide
import Derived.Test.YtlkbapcienjdcaaDoorGRests
namespace Go.Proofs.YtlkbapcienjdcaaDoor
open Go.RowKit
attribute [local go_sem ↓] Go.wp_at_zero Go.wp_at_succ
section
variable {W : World} {B p bm m lim n cap : Nat} {v : Value} {L : List Lz} {i j : Int} {S : Option Addr} {f : Nat → Int}
theorem mt_closed {Ra Rb : Option Mat} : ∀ D, mtO m m Ra Rb = some D → Closed m D := by
  intro D hD
  unfold mtO at hD
  rw [if_pos rfl] at hD
  match Ra, Rb, hD with
  | some A, some C, hD =>
    obtain ⟨ha, rfl⟩ := setR_some hD
    exact lev_closed ha
set_option maxHeartbeats 800000 in
theorem joinT_any (h0 : 0 < m) (h7 : m ≤ 7) (hL : L.length ≤ 100000) (h : LTab B p bm v m lim L L W) (ht : ∀ W', Below B W W' → Tabs W') :
    Calls Tryd.prog 16 #[.pointer (some ⟨p, 0, none⟩), .int .i64 i, .int .i64 j] W (fun e w' => (RetBo B p bm v m lim L i j (jnO m m) W e w') ∧ ∃ a b : Int, e = .returned (.tuple #[.int .i64 a, .int .i64 b])) := by
  have HBo := Lib.hid (both_join (i := i) (j := j) h0 h7 hL h ht (jnO m m) (fun x y => jn_closed) (fun W' Ra Aa ca Rb Ab cb ba bb hb z1 z2 => by
    have q := join_any (ma := m) (mb := m) (Ra := Ra) (Rb := Rb) h0 h7 (fun W1 hb1 => two_of (w := W1) (ma := m) (mb := m) (fun W2 hb2 => close_back h0 h7 ((z1.below hb1).below hb2)) (fun W2 hb2 => close_back h0 h7 ((z2.below hb1).below hb2)))
    rw [show meM m m = m from if_pos rfl] at q
    exact q))
  clear h ht hL h0 h7
  go_enter Tryd.func16, Tryd.ntmps16
  go_wp2_with (go_at_call 33; ((with_reducible refine HBo.out.mono ?_); intro e w1 hr); have HR := Lib.hid hr; obtain ⟨a, b, he⟩ : ∃ a b : Int, e = .returned (.tuple #[.int .i64 a, .int .i64 b]) := (by rcases hr with ⟨_, _, _, a, b, he, _⟩ | ⟨_, he, _⟩; exact ⟨a, b, he⟩; exact ⟨0, 1, he⟩); clear hr; subst he)
  go_ret2
  exact ⟨HR.out, a, b, rfl⟩
set_option maxHeartbeats 800000 in
theorem meetT_any (h0 : 0 < m) (h7 : m ≤ 7) (hL : L.length ≤ 100000) (h : LTab B p bm v m lim L L W) (ht : ∀ W', Below B W W' → Tabs W') :
    Calls Tryd.prog 18 #[.pointer (some ⟨p, 0, none⟩), .int .i64 i, .int .i64 j] W (fun e w' => (RetBo B p bm v m lim L i j (mtO m m) W e w') ∧ ∃ a b : Int, e = .returned (.tuple #[.int .i64 a, .int .i64 b])) := by
  have HBo := Lib.hid (both_meet (i := i) (j := j) h0 h7 hL h ht (mtO m m) (fun x y _ _ => mt_closed) (fun W' Ra Aa ca Rb Ab cb ba bb hb z1 z2 => by
    have q := meet_any (ma := m) (mb := m) (Ra := Ra) (Rb := Rb) h0 h7 (fun W1 hb1 => two_of (w := W1) (ma := m) (mb := m) (fun W2 hb2 => close_back h0 h7 ((z1.below hb1).below hb2)) (fun W2 hb2 => close_back h0 h7 ((z2.below hb1).below hb2)))
    rw [show meM m m = m from if_pos rfl] at q
    exact q))
  clear h ht hL h0 h7
  go_enter Tryd.func18, Tryd.ntmps18
  go_wp2_with (go_at_call 33; ((with_reducible refine HBo.out.mono ?_); intro e w1 hr); have HR := Lib.hid hr; obtain ⟨a, b, he⟩ : ∃ a b : Int, e = .returned (.tuple #[.int .i64 a, .int .i64 b]) := (by rcases hr with ⟨_, _, _, a, b, he, _⟩ | ⟨_, he, _⟩; exact ⟨a, b, he⟩; exact ⟨0, 1, he⟩); clear hr; subst he)
  go_ret2
  exact ⟨HR.out, a, b, rfl⟩
set_option maxRecDepth 100000 in
set_option maxHeartbeats 1600000 in
/-- The closure of Widen. -/
theorem widen1_any {sb ba bb ca cb : Nat} {Ra Rb : Option Mat} {A C : Option Addr} (h0 : 0 < m) (h7 : m ≤ 7) (hn : n ≤ 9223372036854775807) (hS : Sp.Ints W S n f) (hx : Boxed W sb 29 (.slice S n cap)) (z1 : ZRes W ba m Ra (zoneV ((m : Int) - 1) A (rlen m Ra) ca)) (z2 : ZRes W bb m Rb (zoneV ((m : Int) - 1) C (rlen m Rb) cb)) :
    Calls Tryd.prog 48 #[zoneV ((m : Int) - 1) A (rlen m Ra) ca, zoneV ((m : Int) - 1) C (rlen m Rb) cb, .pointer (some ⟨sb, 0, none⟩)] W (RetC W m (wdO m f n Ra Rb)) := by
  have hA : ∀ D, Ra = some D → Closed m D := fun D e => by subst e; exact (zres_some z1).choose_spec.2.1
  have hB : ∀ D, Rb = some D → Closed m D := fun D e => by subst e; exact (zres_some z2).choose_spec.2.1
  have HW : Hid (∀ W', Below W.heap.size W W' → Calls Tryd.prog 49 #[zoneV ((m : Int) - 1) A (rlen m Ra) ca, zoneV ((m : Int) - 1) C (rlen m Rb) cb, .slice S n cap] W' (RetC W' m (wdO m f n Ra Rb))) := Lib.hid fun W' hb => widen_any h0 h7 hn (hS.below hb) hA hB (fun W1 hb1 => two_of (ma := m) (mb := m) (fun W2 hb2 => close_back h0 h7 (((z1.below hb).below hb1).below hb2)) (fun W2 hb2 => close_back h0 h7 (((z2.below hb).below hb1).below hb2)))
  have HT := Lib.hid (thr_new W (.int .i64 ((m : Int) - 1)) (.int .i64 ((m : Int) - 1)) (.int .i64 0) (.slice A (rlen m Ra) ca) (.slice C (rlen m Rb) cb) (.slice none 0 0))
  have hb3 := HT.out.2.2.2
  have HB3 := Lib.hid hb3
  clear hb3
  have x0 := HT.out.1.cell0
  have x1 := HT.out.1.cell1
  have x2 := HT.out.2.1.cell0
  have x3 := HT.out.2.1.cell1
  have x4 := (boxed_below (boxed_below (boxed_below hx (zboxed _ (.cells #[.int .i64 ((m : Int) - 1), .slice A (rlen m Ra) ca] 39))) (zboxed _ (.cells #[.int .i64 ((m : Int) - 1), .slice C (rlen m Rb) cb] 39))) (zboxed _ (.cells #[.int .i64 0, .slice none 0 0] 39))).cell
  clear h0 h7 hn hS hx z1 z2 hA hB
  go_enter Tryd.func48, Tryd.ntmps48
  go_wp2_with (go_at_call 49; ((with_reducible refine (HW.out _ HB3.out).mono ?_); rintro e w2 ⟨A2, c2, rfl, hz2, hb2⟩); have F2 := Lib.hid (HT.out.below hb2); have Z2 := Lib.hid (hz2.lower HB3.out.size); have d0 := F2.out.2.2.1.cell0; have d1 := F2.out.2.2.1.cell1; have d2 := F2.out.2.2.1.frozen0; have d3 := F2.out.2.2.1.frozen1; have d4 := F2.out.2.2.1.lt; clear hz2 hb2)
  exact post_cell (rb := W.heap.size + 1 + 1) Tryd.results48 rfl rfl ((F2.out.2.2.1.set0 _).set1 _) ⟨A2, c2, rfl, (Z2.out.setBox F2.out.2.2.1 _).setBox (F2.out.2.2.1.set0 _) _, (F2.out.2.2.2.setCell (p := ⟨W.heap.size + 1 + 1, 0, none⟩) (by show W.heap.size ≤ W.heap.size + 1 + 1; omega) _).setCell (p := ⟨W.heap.size + 1 + 1, 1, none⟩) (by show W.heap.size ≤ W.heap.size + 1 + 1; omega) _⟩
set_option maxHeartbeats 1600000 in
theorem widenT_any (h0 : 0 < m) (h7 : m ≤ 7) (hn : n ≤ 9223372036854775807) (hL : L.length ≤ 100000) (h : LTab B p bm v m lim L L W) (ht : ∀ W', Below B W W' → Tabs W') (hS : Sp.Ints W S n f) :
    Calls Tryd.prog 25 #[.pointer (some ⟨p, 0, none⟩), .int .i64 i, .int .i64 j, .slice S n cap] W (fun e w' => (∃ W1, Below W.heap.size W W1 ∧ RetBo B p bm v m lim L i j (wdO m f n) W1 e w') ∧ ∃ a b : Int, e = .returned (.tuple #[.int .i64 a, .int .i64 b])) := by
  have hb := zboxed W (.cells #[.slice S n cap] 29)
  have hx := Boxed.new W 29 (.slice S n cap)
  have hle := h.le
  have HBo := Lib.hid (both_widen (i := i) (j := j) (sb := W.heap.size) h0 h7 hL (h.below hb) (fun W' hb1 => ht W' ((hb.mono hle).trans hb1)) (wdO m f n) (fun x y hA hB => wd_closed hA hB) (fun W' Ra Aa ca Rb Ab cb ba bb hb1 z1 z2 => widen1_any h0 h7 hn ((hS.below hb).below hb1) (boxed_below hx hb1) z1 z2))
  have HB := Lib.hid hb
  clear h ht hL h0 h7 hn hS hb hx hle
  go_enter Tryd.func25, Tryd.ntmps25
  go_wp2_with (go_at_call 33; ((with_reducible refine HBo.out.mono ?_); intro e w1 hr); have HR := Lib.hid hr; obtain ⟨a, b, he⟩ : ∃ a b : Int, e = .returned (.tuple #[.int .i64 a, .int .i64 b]) := (by rcases hr with ⟨_, _, _, a, b, he, _⟩ | ⟨_, he, _⟩; exact ⟨a, b, he⟩; exact ⟨0, 1, he⟩); clear hr; subst he)
  go_ret2
  exact ⟨⟨_, HB.out, HR.out⟩, a, b, rfl⟩
end
end Go.Proofs.YtlkbapcienjdcaaDoor
