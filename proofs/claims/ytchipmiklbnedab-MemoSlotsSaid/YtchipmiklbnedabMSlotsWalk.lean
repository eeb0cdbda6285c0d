/- The walk of MemoSlots. -/
import Derived.Test.YtchipmiklbnedabMAlive
import Derived.Test.YtchipmiklbnedabMRef
namespace Go.Proofs.Ytchipmiklbnedab
open Go.RowKit
attribute [local go_sem ↓] Go.wp_at_zero Go.wp_at_succ

theorem keep_live {w W W1 : World} {p g n c q : Nat} {T : Nat → Pl} {x y z : Option Value} (hb : Below W.heap.size W W1) (h : Lives w p g n c T W ∧ q < W.heap.size ∧ W.cell? ⟨q, 0, none⟩ = x ∧ W.cell? ⟨q, 1, none⟩ = y ∧ W.cell? ⟨q, 2, none⟩ = z) :
    Lives w p g n c T W1 ∧ q < W1.heap.size ∧ W1.cell? ⟨q, 0, none⟩ = x ∧ W1.cell? ⟨q, 1, none⟩ = y ∧ W1.cell? ⟨q, 2, none⟩ = z :=
  ⟨h.1.below hb, Nat.lt_of_lt_of_le h.2.1 hb.size, (hb.cell (p := ⟨q, 0, none⟩) h.2.1).trans h.2.2.1, (hb.cell (p := ⟨q, 1, none⟩) h.2.1).trans h.2.2.2.1, (hb.cell (p := ⟨q, 2, none⟩) h.2.1).trans h.2.2.2.2⟩
set_option maxRecDepth 100000 in
set_option maxHeartbeats 3200000 in
theorem slots_walk (k a b d : Int) (w : World) : Calls Try.prog 7 #[.int .i64 k, .agg #[.int .i64 a, .int .i64 b, .int .i64 d]] w (RetB (.bool true) w) := by
  obtain ⟨n, hn⟩ : ∃ n, sizeP k = n := ⟨_, rfl⟩
  have hbd := sizeP_bd k
  rw [hn] at hbd
  obtain ⟨s, hs⟩ : ∃ s, slotP n (a, b, d) = s := ⟨_, rfl⟩
  have hsn : s < n := by rw [← hs]; exact (slotP_is (by omega) _).2
  have HN : Hid (∀ W, Calls Try.prog 9 #[.int .i64 k] W fun e w' => ∃ p g, e = .returned (.pointer (some ⟨p, 0, none⟩)) ∧ Lives W p g n n noneP w') := Lib.hid fun W => by rw [← hn]; exact (live_new k W).mono fun _ _ h => ⟨_, _, h⟩
  have HR : Hid (∀ W, Calls Try.prog 10 #[.int .i64 k] W (RetW (.int .i64 (n : Nat)) W)) := Lib.hid fun W => by rw [← hn]; exact rsize_any k W
  have HS : Hid (∀ W p g w, Lives w p g n n noneP W → Calls Try.prog 16 #[.pointer (some ⟨p, 0, none⟩), .agg #[.int .i64 a, .int .i64 b, .int .i64 d]] W fun e w' => e = .returned (.int .i64 (s : Nat)) ∧ Lives w p g n n noneP w' ∧ Below W.heap.size W w') := Lib.hid fun W p g w h => by
    rw [← hs]; exact (slot_any a b d h.1.c0 h.1.room.1 h.1.room.2).mono fun _ _ ⟨h1, h2⟩ => ⟨h1, h.below h2, h2⟩
  have HT : Hid (∀ W, Calls Try.prog 17 #[.int .i64 (n : Int), .agg #[.int .i64 a, .int .i64 b, .int .i64 d]] W (RetB (.int .i64 (s : Nat)) W)) := Lib.hid fun W => by rw [← hs]; exact rslot_any n a b d W (by omega) hbd.2
  have hb0 : Below w.heap.size w (w.alloc (.cells #[.int .i64 a, .int .i64 b, .int .i64 d] 28)) := (Below.refl _ _).alloc (Nat.le_refl _) _
  have hB0 : Blk (w.alloc (.cells #[.int .i64 a, .int .i64 b, .int .i64 d] 28)) w.heap.size 28 #[.int .i64 a, .int .i64 b, .int .i64 d] := Blk.new _ _ _
  have HW := Lib.hid (And.intro hb0 hB0)
  have ne := ne_nil
  clear hn hs hbd hb0 hB0
  go_enter Try.func7, Try.ntmps7
  go_wp2_with (first
    | (go_at_call 9; ((with_reducible refine (HN.out _).mono ?_); rintro e w1 ⟨p, g, rfl, h1⟩); have H1 := Lib.hid h1; have hB1 := HW.out.2.below h1.2.2.2 HW.out.2.lt; have y0 : w1.cell? ⟨w.heap.size, 0, none⟩ = some (.int .i64 a) := hB1.cell 0; have y1 : w1.cell? ⟨w.heap.size, 1, none⟩ = some (.int .i64 b) := hB1.cell 1; have y2 : w1.cell? ⟨w.heap.size, 2, none⟩ = some (.int .i64 d) := hB1.cell 2; have HB1 := Lib.hid hB1; clear h1 hB1)
    | (go_at_call 16; ((with_reducible refine (HS.out _ _ _ _ H1.out).mono ?_); rintro e w2 ⟨rfl, h2, hb2⟩); have H2 := Lib.hid h2; have HB2 := Lib.hid (HB1.out.below hb2 HB1.out.lt); clear h2 hb2))
  clear y0 y1 y2
  have K0 : Hid (Lives (w.alloc (.cells #[.int .i64 a, .int .i64 b, .int .i64 d] 28)) p g n n noneP w2.drew ∧ w.heap.size < w2.drew.heap.size ∧ w2.drew.cell? ⟨w.heap.size, 0, none⟩ = some (.int .i64 a) ∧ w2.drew.cell? ⟨w.heap.size, 1, none⟩ = some (.int .i64 b) ∧ w2.drew.cell? ⟨w.heap.size, 2, none⟩ = some (.int .i64 d)) :=
    Lib.hid (keep_live (Below.refl _ _).drew ⟨H2.out, HB2.out.lt, HB2.out.cell 0, HB2.out.cell 1, HB2.out.cell 2⟩)
  go_region_held3 (fun w' => Lives (w.alloc (.cells #[.int .i64 a, .int .i64 b, .int .i64 d] 28)) p g n n noneP w' ∧ w.heap.size < w'.heap.size ∧ w'.cell? ⟨w.heap.size, 0, none⟩ = some (.int .i64 a) ∧ w'.cell? ⟨w.heap.size, 1, none⟩ = some (.int .i64 b) ∧ w'.cell? ⟨w.heap.size, 2, none⟩ = some (.int .i64 d))
    (first | (with_reducible exact K0.out) | (with_reducible exact keep_live hb3 K0.out) | (with_reducible exact keep_live hb4 (keep_live hb3 K0.out)))
    (first
      | (go_at_call 8; ((with_reducible refine (alive_any _).mono ?_); rintro e w3 ⟨rfl, hb3⟩))
      | (go_at_call 18; ((with_reducible refine (live_size (keep_live hb3 K0.out).1).mono ?_); rintro e w9 ⟨rfl, rfl⟩))
      | (go_at_call 10; ((with_reducible refine (HR.out _).mono ?_); rintro e w9 ⟨rfl, rfl⟩))
      | (go_at_call 17; ((with_reducible refine (HT.out _).mono ?_); rintro e w4 ⟨rfl, hb4⟩)))
  have HF := Lib.hid (keep_live hb4 (keep_live hb3 K0.out)).1
  clear hb3 hb4
  go_wp2_with fail
  go_ret
  exact ⟨rfl, HW.out.1.trans (HF.out.2.2.2.mono HW.out.1.size)⟩
end Go.Proofs.Ytchipmiklbnedab
