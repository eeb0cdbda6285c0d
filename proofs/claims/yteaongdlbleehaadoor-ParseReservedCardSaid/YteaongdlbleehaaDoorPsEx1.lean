/- The parse layer: signs ahead, and brackets. -/
import Derived.Test.YteaongdlbleehaaDoorPsEx0
namespace Go.Proofs.YteaongdlbleehaaDoor
open Go.RowKit
attribute [local go_sem] field_at field_tx field_nn
section
variable {B b len k d n : Nat} {M : Value} {s : PS} {w : World}
set_option maxHeartbeats 6400000 in
set_option maxRecDepth 100000 in
theorem opp_any {f : Nat} (ih : PXp B b len M k f) (op : Bs) (hd : d ≤ 32) (h : Par B b len M k d s w) (ht : (nxt len s).text ≠ []) (hf : 8 * s.ts.length + 1 ≤ f + 1) :
    Calls Tryd.prog 60 #[.pointer (some ⟨b, 0, none⟩), .string (bA op)] w (RetX B b len M k d ((exF len f .part (d + 1) (enterF len d s)).1, .mk (bA op) ⟨#[]⟩ 0 [(exF len f .part (d + 1) (enterF len d s)).2] (nxt len s).at_) w) := by
  obtain ⟨W0, hW0⟩ : ∃ W0, W0 = w.alloc (.cells #[.string ⟨#[]⟩, .string ⟨#[]⟩, .int .i64 0, .slice none 0 0, .int .i64 0] 24) := ⟨_, rfl⟩
  have B0 : Hid (Below w.heap.size w W0) := Lib.hid (by rw [hW0]; exact (Below.refl _ _).alloc (Nat.le_refl _) _)
  have K0 : Hid (Blk W0 w.heap.size 24 #[.string ⟨#[]⟩, .string ⟨#[]⟩, .int .i64 0, .slice none 0 0, .int .i64 0]) := Lib.hid (by rw [hW0]; exact Blk.new w _ _)
  have P0 := Lib.hid (h.below B0.out)
  have D0 := Lib.hid (Pd.of_below B0.out b)
  have HW0 := Lib.hid hW0
  have HG : Hid (b ≠ w.heap.size ∧ B ≤ w.heap.size ∧ b < w.heap.size) := Lib.hid ⟨Nat.ne_of_lt h.lt, Nat.le_trans h.lo (Nat.le_of_lt h.lt), h.lt⟩
  have HN := Lib.hid (next_any P0.out)
  unfold tkV at HN
  obtain ⟨an, han⟩ : ∃ q, q = (nxt len s).at_ := ⟨_, rfl⟩
  have HAn : Hid (In64 (an : Int)) := Lib.hid (in64_small (by rw [han]; have := (nxt_b (len := len) h.hl h.tb).1; omega))
  rw [← han] at HN ⊢
  have HDk := Lib.hid (dok_enter (len := len) (s := s) h.good hd)
  have HLn : Hid (8 * (enterF len d s).ts.length + 1 ≤ f) := Lib.hid (by have := enter_len (len := len) (s := s) d ht; omega)
  obtain ⟨s1, hs1⟩ : ∃ q, q = enterF len d s := ⟨_, rfl⟩
  have HEn : Hid (∀ w, Par B b len M k d s w → Calls Tryd.prog 74 #[.pointer (some ⟨b, 0, none⟩)] w (RetP B b len M k (d + 1) (.tuple #[]) s1 w)) := Lib.hid fun w h => by rw [hs1]; exact enter_any h (by omega)
  rw [← hs1] at HDk HLn ⊢
  obtain ⟨r, hr⟩ : ∃ q, q = exF len f .part (d + 1) s1 := ⟨_, rfl⟩
  have HPt : Hid (∀ w, Par B b len M k (d + 1) s1 w → Calls Tryd.prog 35 #[.pointer (some ⟨b, 0, none⟩)] w (RetX B b len M k (d + 1) r w)) := Lib.hid fun w h => by rw [hr]; exact ih _ _ _ h HDk.out HLn.out
  rw [← hr]
  obtain ⟨s2, y⟩ := r
  have hdw : IntKind.i64.wrap ((d : Int) + 1 - 1) = (d : Int) := by rw [IntWalk.i64_in _ (by omega)]; omega
  obtain ⟨OP, hOP⟩ : ∃ q, q = bA op := ⟨_, rfl⟩
  rw [← hOP]
  clear hW0 han hs1 hr ht hf h hOP ih
  go_enter Tryd.func60, Tryd.ntmps60
  go_upto_region 1 with fail
  rw [← HW0.out]
  go_upto_region 2 with (go_at_call 34; have HX := HN.out; (with_reducible refine HX.mono ?_); clear HX; rintro e w1 ⟨rfl, hb⟩; have B1 := Lib.hid (thru B0.out hb); have P1 := Lib.hid (P0.out.below hb); have K1 := Lib.hid (K0.out.below hb K0.out.lt); clear hb)
  obtain ⟨W2, hW2⟩ : ∃ W2, W2 = w1.alloc (.cells #[.string OP, .string ⟨#[]⟩, .int .i64 0, .slice none 0 0, .int .i64 (an : Int)] 24) := ⟨_, rfl⟩
  have E2 : Hid (Below w1.heap.size w1 W2) := Lib.hid (by rw [hW2]; exact (Below.refl _ _).alloc (Nat.le_refl _) _)
  have D2 := Lib.hid (Pd.of_below (thru B1.out E2.out) b)
  have P2 := Lib.hid (P1.out.below E2.out)
  have K2 := Lib.hid (K1.out.below E2.out K1.out.lt)
  have T2 : Hid (Blk W2 w1.heap.size 24 #[.string OP, .string ⟨#[]⟩, .int .i64 0, .slice none 0 0, .int .i64 (an : Int)]) := Lib.hid (by rw [hW2]; exact Blk.new w1 _ _)
  have HT : Hid (w.heap.size ≠ w1.heap.size ∧ b ≠ w1.heap.size ∧ w.heap.size ≤ w1.heap.size ∧ B ≤ w1.heap.size) := Lib.hid ⟨Nat.ne_of_lt K1.out.lt, Nat.ne_of_lt P1.out.lt, B1.out.size, Nat.le_trans HG.out.2.1 B1.out.size⟩
  rw [← hW2]
  clear hW2
  go_upto_region 3 with (go_at_call 74; have HX := HEn.out _ P2.out; (with_reducible refine HX.mono ?_); clear HX; rintro e w3 ⟨rfl, hp, hd3⟩; have P3 := Lib.hid hp; have D3 := Lib.hid (D2.out.trans hd3); have K3 := Lib.hid (hd3.blk K2.out HG.out.1.symm); have T3 := Lib.hid (hd3.blk T2.out HT.out.2.1.symm); have S3 := Lib.hid (Nat.lt_of_lt_of_le T2.out.lt hd3.size); clear hp hd3)
  go_upto_region 4 with (go_at_call 35; have HX := HPt.out _ P3.out; (with_reducible refine HX.mono ?_); clear HX; rintro e w4 ⟨nL, AL, mL, cL, rfl, hp, hd4, hi1, hi2, hr4⟩; have P4 := Lib.hid hp; have D4 := Lib.hid (D3.out.trans hd4); have K4 := Lib.hid (hd4.blk K3.out HG.out.1.symm); have T4 := Lib.hid (hd4.blk T3.out HT.out.2.1.symm); have R4 := Lib.hid hr4; have I1 := Lib.hid hi1; have I2 := Lib.hid hi2; have S4 := Lib.hid hd4.size; have t0 := T4.out.cell 0; have t1 := T4.out.cell 1; have t2 := T4.out.cell 2; have t3 := T4.out.cell 3; have tf0 := T4.out.frozen 0; have tf1 := T4.out.frozen 1; have tf2 := T4.out.frozen 2; have tf3 := T4.out.frozen 3; have tl := T4.out.lt; simp at t0 t1 t2 t3; clear hp hd4 hr4 hi1 hi2)
  have E4 : Hid (w1.heap.size < w4.heap.size) := Lib.hid (Nat.lt_of_lt_of_le S3.out S4.out)
  obtain ⟨w5, hw5⟩ : ∃ q, q = w4.setCell ⟨w1.heap.size, 3, none⟩ (.slice (some ⟨w4.heap.size, 0, none⟩) 1 1) := ⟨_, rfl⟩
  have Z5 : Hid (w5.heap.size = w4.heap.size) := Lib.hid (by rw [hw5]; simp [World.setCell])
  have P5 : Hid (Par B b len M k (d + 1) s2 w5) := Lib.hid (by rw [hw5]; exact P4.out.far HT.out.2.1 HT.out.2.2.2 _)
  have D5 : Hid (Pd b w w5) := Lib.hid (by rw [hw5]; exact D4.out.fresh HT.out.2.2.1 _)
  have K5 : Hid (Blk w5 w.heap.size 24 #[.string ⟨#[]⟩, .string ⟨#[]⟩, .int .i64 0, .slice none 0 0, .int .i64 0]) := Lib.hid (by rw [hw5]; exact K4.out.far HT.out.1 _)
  have T5 : Hid (Blk w5 w1.heap.size 24 #[.string OP, .string ⟨#[]⟩, .int .i64 0, .slice (some ⟨w4.heap.size, 0, none⟩) 1 1, .int .i64 (an : Int)]) := Lib.hid (by rw [hw5]; exact T4.out.set_ 3 _)
  have R5 : Hid (ExR (fun q => w3.heap.size ≤ q ∧ q < w4.heap.size) nL w5 y.l (.slice AL mL cL)) := Lib.hid (by rw [hw5]; exact R4.out.kept fun q hq => Below.heap_setCell _ _ _ _ (by have := S3.out; have := hq.1; show q ≠ w1.heap.size; omega))
  rw [← hw5]
  clear hw5
  clear t0 t1 t2 t3 tf0 tf1 tf2 tf3 tl
  obtain ⟨W6, hW6⟩ : ∃ q, q = w5.alloc (.cells #[.string y.op, .string y.nm, .int .i64 y.n, .slice AL mL cL, .int .i64 y.a] 24) := ⟨_, rfl⟩
  have E6 : Hid (Below w5.heap.size w5 W6) := Lib.hid (by rw [hW6]; exact (Below.refl _ _).alloc (Nat.le_refl _) _)
  have P6 := Lib.hid (P5.out.below E6.out)
  have D6 := Lib.hid (D5.out.then_ E6.out)
  have K6 := Lib.hid (K5.out.below E6.out K5.out.lt)
  have T6 := Lib.hid (T5.out.below E6.out T5.out.lt)
  have N6 : Hid (Blk W6 w4.heap.size 24 #[.string y.op, .string y.nm, .int .i64 y.n, .slice AL mL cL, .int .i64 y.a]) := Lib.hid (by rw [hW6, ← Z5.out]; exact Blk.new w5 _ _)
  have X6 : Hid (ExR (fun q => w.heap.size ≤ q ∧ q < W6.heap.size ∧ q ≠ w.heap.size) (nL + 1) W6 [y] (.slice (some ⟨w4.heap.size, 0, none⟩) 1 1)) := Lib.hid (exr_one N6.out ⟨by have := E4.out; have := HT.out.2.2.1; omega, N6.out.lt, by have := E4.out; have := HT.out.2.2.1; omega⟩ I1.out I2.out ((R5.out.below E6.out (fun q hq => by rw [Z5.out]; exact hq.2)).wide (fun q hq => ⟨by have := S3.out; have := HT.out.2.2.1; have := hq.1; omega, Nat.lt_of_lt_of_le hq.2 (by rw [← Z5.out]; exact E6.out.size), by have := S3.out; have := HT.out.2.2.1; have := hq.1; omega⟩)))
  rw [← hW6]
  clear hW6
  obtain ⟨Aq7, cq7, hq7, -⟩ := P6.out.mem
  have b5 := hq7.cell 5
  have bf := hq7.frozen 5
  have bl := hq7.lt
  simp at b5
  have P7 : Hid (Par B b len M k d _ (W6.setCell ⟨b, 5, none⟩ (.int .i64 (d : Int)))) := Lib.hid P6.out.within
  have D7 := Lib.hid (D6.out.setCell (p := ⟨b, 5, none⟩) rfl (.int .i64 (d : Int)))
  have K7 := Lib.hid (K6.out.far (p := ⟨b, 5, none⟩) HG.out.1.symm (.int .i64 (d : Int)))
  have T7 := Lib.hid (T6.out.far (p := ⟨b, 5, none⟩) HT.out.2.1.symm (.int .i64 (d : Int)))
  have X7 := Lib.hid (X6.out.set5 HG.out.2.2 (.int .i64 (d : Int)))
  clear hq7
  go_upto_region 5 with fail
  obtain ⟨W7, hW7⟩ : ∃ q, q = W6.setCell ⟨b, 5, none⟩ (.int .i64 (d : Int)) := ⟨_, rfl⟩
  rw [← hW7] at P7 D7 K7 T7 X7 ⊢
  clear hW7
  clear b5 bf bl
  have t0 := T7.out.cell 0
  have t1 := T7.out.cell 1
  have t2 := T7.out.cell 2
  have t3 := T7.out.cell 3
  have t4 := T7.out.cell 4
  simp at t0 t1 t2 t3 t4
  have r0 := K7.out.cell 0
  have r1 := K7.out.cell 1
  have r2 := K7.out.cell 2
  have r3 := K7.out.cell 3
  have r4 := K7.out.cell 4
  have rf0 := K7.out.frozen 0
  have rf1 := K7.out.frozen 1
  have rf2 := K7.out.frozen 2
  have rf3 := K7.out.frozen 3
  have rf4 := K7.out.frozen 4
  have rl := K7.out.lt
  simp at r0 r1 r2 r3 r4
  go_wp2
  have q := ex_box K7.out (.string OP) (.string ⟨#[]⟩) (.int .i64 0) (.slice (some ⟨w4.heap.size, 0, none⟩) 1 1) (.int .i64 (an : Int))
  have q0 := q.cell 0
  have q1 := q.cell 1
  have q2 := q.cell 2
  have q3 := q.cell 3
  have q4 := q.cell 4
  simp at q0 q1 q2 q3 q4
  have HZ := fin_ex P7.out D7.out (Nat.le_refl _) HG.out.1 HG.out.2.1 X7.out (.string OP) (.string ⟨#[]⟩) (.int .i64 0) (.slice (some ⟨w4.heap.size, 0, none⟩) 1 1) (.int .i64 (an : Int))
  refine bodyPost_ret (v := exV OP ⟨#[]⟩ 0 (.slice (some ⟨w4.heap.size, 0, none⟩) 1 1) (an : Int)) (by simp [results, Tryd.results60, go_sem, q0, q1, q2, q3, q4]) rfl ⟨_, _, _, _, rfl, HZ.1, HZ.2.1, in64_zero, HAn.out, HZ.2.2⟩
set_option maxHeartbeats 6400000 in
set_option maxRecDepth 100000 in
theorem pexpr_any {f : Nat} (ih : PXs B b len M k f) (h : Par B b len M k d s w) (hd : DOK d s) (hf : 8 * s.ts.length + 7 ≤ f) :
    Calls Tryd.prog 9 #[.pointer (some ⟨b, 0, none⟩)] w (RetX B b len M k d (exF len f (.parts 1) d s) w) := by
  obtain ⟨W0, hW0⟩ : ∃ W0, W0 = w.alloc (.cells #[.string ⟨#[]⟩, .string ⟨#[]⟩, .int .i64 0, .slice none 0 0, .int .i64 0] 24) := ⟨_, rfl⟩
  have B0 : Hid (Below w.heap.size w W0) := Lib.hid (by rw [hW0]; exact (Below.refl _ _).alloc (Nat.le_refl _) _)
  have K0 : Hid (Blk W0 w.heap.size 24 #[.string ⟨#[]⟩, .string ⟨#[]⟩, .int .i64 0, .slice none 0 0, .int .i64 0]) := Lib.hid (by rw [hW0]; exact Blk.new w _ _)
  have P0 := Lib.hid (h.below B0.out)
  have D0 := Lib.hid (Pd.of_below B0.out b)
  have HW0 := Lib.hid hW0
  have HG : Hid (b ≠ w.heap.size ∧ B ≤ w.heap.size ∧ b < w.heap.size) := Lib.hid ⟨Nat.ne_of_lt h.lt, Nat.le_trans h.lo (Nat.le_of_lt h.lt), h.lt⟩
  obtain ⟨r, hr⟩ : ∃ q, q = exF len f (.parts 1) d s := ⟨_, rfl⟩
  have HPt : Hid (∀ w, Par B b len M k d s w → Calls Tryd.prog 16 #[.pointer (some ⟨b, 0, none⟩), .int .i64 1] w (RetX B b len M k d r w)) := Lib.hid fun w h => by rw [hr]; exact ih 1 _ _ _ (Nat.le_refl _) (by omega) h hd (by omega)
  rw [← hr]
  obtain ⟨s2, y⟩ := r
  clear hW0 hr hf h ih hd
  go_enter Tryd.func9, Tryd.ntmps9
  go_upto_region 1 with fail
  rw [← HW0.out]
  go_wp2_with (go_at_call 16; have HX := HPt.out _ P0.out; (with_reducible refine HX.mono ?_); clear HX; rintro e w1 ⟨nL, AL, mL, cL, rfl, hp, hd1, hi1, hi2, hr1⟩; have P1 := Lib.hid hp; have D1 := Lib.hid (D0.out.trans hd1); have K1 := Lib.hid (hd1.blk K0.out HG.out.1.symm); have X1 : Hid (ExR (fun q => w.heap.size ≤ q ∧ q < w1.heap.size ∧ q ≠ w.heap.size) nL w1 y.l (.slice AL mL cL)) := Lib.hid (hr1.wide (fun q hq => ⟨Nat.le_trans B0.out.size hq.1, hq.2, by have := K0.out.lt; have := hq.1; omega⟩)); have I1 := Lib.hid hi1; have I2 := Lib.hid hi2; have r0 := K1.out.cell 0; have r1 := K1.out.cell 1; have r2 := K1.out.cell 2; have r3 := K1.out.cell 3; have r4 := K1.out.cell 4; have rf0 := K1.out.frozen 0; have rf1 := K1.out.frozen 1; have rf2 := K1.out.frozen 2; have rf3 := K1.out.frozen 3; have rf4 := K1.out.frozen 4; have rl := K1.out.lt; simp at r0 r1 r2 r3 r4; clear hp hd1 hr1 hi1 hi2)
  have q := ex_box K1.out (.string y.op) (.string y.nm) (.int .i64 y.n) (.slice AL mL cL) (.int .i64 y.a)
  have q0 := q.cell 0
  have q1 := q.cell 1
  have q2 := q.cell 2
  have q3 := q.cell 3
  have q4 := q.cell 4
  simp at q0 q1 q2 q3 q4
  have HZ := fin_ex P1.out D1.out (Nat.le_refl _) HG.out.1 HG.out.2.1 X1.out (.string y.op) (.string y.nm) (.int .i64 y.n) (.slice AL mL cL) (.int .i64 y.a)
  refine bodyPost_ret (v := exV y.op y.nm y.n (.slice AL mL cL) y.a) (by simp [results, Tryd.results9, go_sem, q0, q1, q2, q3, q4]) rfl ⟨_, _, _, _, rfl, HZ.1, HZ.2.1, I1.out, I2.out, HZ.2.2⟩
set_option maxHeartbeats 6400000 in
set_option maxRecDepth 100000 in
theorem opened_any {f : Nat} (ih : PXs B b len M k f) (cl : Bs) (hd : d ≤ 32) (h : Par B b len M k d s w) (ht : (nxt len s).text ≠ []) (hf : 8 * s.ts.length ≤ f) :
    Calls Tryd.prog 61 #[.pointer (some ⟨b, 0, none⟩), .string (bA cl)] w (RetX B b len M k d (expF len cl (exF len f (.parts 1) (d + 1) (enterF len d s)).1, (exF len f (.parts 1) (d + 1) (enterF len d s)).2) w) := by
  obtain ⟨W0, hW0⟩ : ∃ W0, W0 = w.alloc (.cells #[.string ⟨#[]⟩, .string ⟨#[]⟩, .int .i64 0, .slice none 0 0, .int .i64 0] 24) := ⟨_, rfl⟩
  have B0 : Hid (Below w.heap.size w W0) := Lib.hid (by rw [hW0]; exact (Below.refl _ _).alloc (Nat.le_refl _) _)
  have K0 : Hid (Blk W0 w.heap.size 24 #[.string ⟨#[]⟩, .string ⟨#[]⟩, .int .i64 0, .slice none 0 0, .int .i64 0]) := Lib.hid (by rw [hW0]; exact Blk.new w _ _)
  have P0 := Lib.hid (h.below B0.out)
  have D0 := Lib.hid (Pd.of_below B0.out b)
  have HW0 := Lib.hid hW0
  have HG : Hid (b ≠ w.heap.size ∧ B ≤ w.heap.size ∧ b < w.heap.size) := Lib.hid ⟨Nat.ne_of_lt h.lt, Nat.le_trans h.lo (Nat.le_of_lt h.lt), h.lt⟩
  have HDk := Lib.hid (dok_enter (len := len) (s := s) h.good hd)
  have HLn : Hid (8 * (enterF len d s).ts.length + 7 ≤ f) := Lib.hid (by have := enter_len (len := len) (s := s) d ht; omega)
  obtain ⟨s1, hs1⟩ : ∃ q, q = enterF len d s := ⟨_, rfl⟩
  have HEn : Hid (∀ w, Par B b len M k d s w → Calls Tryd.prog 74 #[.pointer (some ⟨b, 0, none⟩)] w (RetP B b len M k (d + 1) (.tuple #[]) s1 w)) := Lib.hid fun w h => by rw [hs1]; exact enter_any h (by omega)
  rw [← hs1] at HDk HLn ⊢
  obtain ⟨r, hr⟩ : ∃ q, q = exF len f (.parts 1) (d + 1) s1 := ⟨_, rfl⟩
  have HPt : Hid (∀ w, Par B b len M k (d + 1) s1 w → Calls Tryd.prog 9 #[.pointer (some ⟨b, 0, none⟩)] w (RetX B b len M k (d + 1) r w)) := Lib.hid fun w h => by rw [hr]; exact pexpr_any ih h HDk.out HLn.out
  rw [← hr]
  obtain ⟨s2, y⟩ := r
  have HXp : Hid (∀ w, Par B b len M k d s2 w → Calls Tryd.prog 40 #[.pointer (some ⟨b, 0, none⟩), .string (bA cl)] w (RetP B b len M k d (.tuple #[]) (expF len cl s2) w)) := Lib.hid fun w h => expect_any cl h
  obtain ⟨s3, hs3⟩ : ∃ q, q = expF len cl s2 := ⟨_, rfl⟩
  rw [← hs3] at HXp ⊢
  have hdw : IntKind.i64.wrap ((d : Int) + 1 - 1) = (d : Int) := by rw [IntWalk.i64_in _ (by omega)]; omega
  obtain ⟨CL, hCL⟩ : ∃ q, q = bA cl := ⟨_, rfl⟩
  rw [← hCL] at HXp ⊢
  clear hW0 hs1 hr ht hf h hCL hs3 ih
  go_enter Tryd.func61, Tryd.ntmps61
  go_upto_region 1 with fail
  rw [← HW0.out]
  go_upto_region 2 with (go_at_call 74; have HX := HEn.out _ P0.out; (with_reducible refine HX.mono ?_); clear HX; rintro e w1 ⟨rfl, hp, hd3⟩; have P1 := Lib.hid hp; have D1 := Lib.hid (D0.out.trans hd3); have K1 := Lib.hid (hd3.blk K0.out HG.out.1.symm); clear hp hd3)
  go_upto_region 3 with (go_at_call 9; have HX := HPt.out _ P1.out; (with_reducible refine HX.mono ?_); clear HX; rintro e w2 ⟨nL, AL, mL, cL, rfl, hp, hd4, hi1, hi2, hr4⟩; have P2 := Lib.hid hp; have D2 := Lib.hid (D1.out.trans hd4); have K2 := Lib.hid (hd4.blk K1.out HG.out.1.symm); have R2 := Lib.hid hr4; have I1 := Lib.hid hi1; have I2 := Lib.hid hi2; clear hp hd4 hr4 hi1 hi2)
  obtain ⟨W3, hW3⟩ : ∃ W3, W3 = w2.alloc (.cells #[.string y.op, .string y.nm, .int .i64 y.n, .slice AL mL cL, .int .i64 y.a] 24) := ⟨_, rfl⟩
  have E3 : Hid (Below w2.heap.size w2 W3) := Lib.hid (by rw [hW3]; exact (Below.refl _ _).alloc (Nat.le_refl _) _)
  have P3 := Lib.hid (P2.out.below E3.out)
  have D3 := Lib.hid (D2.out.then_ E3.out)
  have K3 := Lib.hid (K2.out.below E3.out K2.out.lt)
  have T3 : Hid (Blk W3 w2.heap.size 24 #[.string y.op, .string y.nm, .int .i64 y.n, .slice AL mL cL, .int .i64 y.a]) := Lib.hid (by rw [hW3]; exact Blk.new w2 _ _)
  have HT : Hid (w.heap.size ≠ w2.heap.size ∧ b ≠ w2.heap.size) := Lib.hid ⟨Nat.ne_of_lt K2.out.lt, Nat.ne_of_lt P2.out.lt⟩
  have X3 : Hid (ExR (fun q => w.heap.size ≤ q ∧ q < W3.heap.size ∧ q ≠ w.heap.size) nL W3 y.l (.slice AL mL cL)) := Lib.hid ((R2.out.below E3.out (fun q hq => hq.2)).wide (fun q hq => ⟨Nat.le_trans D1.out.size hq.1, Nat.lt_of_lt_of_le hq.2 E3.out.size, by have := K1.out.lt; have := hq.1; omega⟩))
  rw [← hW3]
  clear hW3
  obtain ⟨Aq4, cq4, hq4, -⟩ := P3.out.mem
  have b5 := hq4.cell 5
  have bf := hq4.frozen 5
  have bl := hq4.lt
  simp at b5
  have P4 : Hid (Par B b len M k d _ (W3.setCell ⟨b, 5, none⟩ (.int .i64 (d : Int)))) := Lib.hid P3.out.within
  have D4 := Lib.hid (D3.out.setCell (p := ⟨b, 5, none⟩) rfl (.int .i64 (d : Int)))
  have K4 := Lib.hid (K3.out.far (p := ⟨b, 5, none⟩) HG.out.1.symm (.int .i64 (d : Int)))
  have T4 := Lib.hid (T3.out.far (p := ⟨b, 5, none⟩) HT.out.2.symm (.int .i64 (d : Int)))
  have X4 := Lib.hid (X3.out.set5 HG.out.2.2 (.int .i64 (d : Int)))
  clear hq4
  go_upto_region 4 with fail
  obtain ⟨W4, hW4⟩ : ∃ q, q = W3.setCell ⟨b, 5, none⟩ (.int .i64 (d : Int)) := ⟨_, rfl⟩
  rw [← hW4] at P4 D4 K4 T4 X4 ⊢
  clear hW4
  clear b5 bf bl
  go_upto_region 5 with (go_at_call 40; have HX := HXp.out _ P4.out; (with_reducible refine HX.mono ?_); clear HX; rintro e w5 ⟨rfl, hp, hd3⟩; have P5 := Lib.hid hp; have D5 := Lib.hid (D4.out.trans hd3); have K5 := Lib.hid (hd3.blk K4.out HG.out.1.symm); have T5 := Lib.hid (hd3.blk T4.out HT.out.2.symm); have X5 : Hid (ExR (fun q => w.heap.size ≤ q ∧ q < w5.heap.size ∧ q ≠ w.heap.size) nL w5 y.l (.slice AL mL cL)) := Lib.hid ((X4.out.pd hd3 (fun q hq => ⟨hq.2.1, by have := HG.out.2.2; have := hq.1; omega⟩)).wide (fun q hq => ⟨hq.1, Nat.lt_of_lt_of_le hq.2.1 hd3.size, hq.2.2⟩)); clear hp hd3)
  have t0 := T5.out.cell 0
  have t1 := T5.out.cell 1
  have t2 := T5.out.cell 2
  have t3 := T5.out.cell 3
  have t4 := T5.out.cell 4
  simp at t0 t1 t2 t3 t4
  have r0 := K5.out.cell 0
  have r1 := K5.out.cell 1
  have r2 := K5.out.cell 2
  have r3 := K5.out.cell 3
  have r4 := K5.out.cell 4
  have rf0 := K5.out.frozen 0
  have rf1 := K5.out.frozen 1
  have rf2 := K5.out.frozen 2
  have rf3 := K5.out.frozen 3
  have rf4 := K5.out.frozen 4
  have rl := K5.out.lt
  simp at r0 r1 r2 r3 r4
  go_wp2
  have q := ex_box K5.out (.string y.op) (.string y.nm) (.int .i64 y.n) (.slice AL mL cL) (.int .i64 y.a)
  have q0 := q.cell 0
  have q1 := q.cell 1
  have q2 := q.cell 2
  have q3 := q.cell 3
  have q4 := q.cell 4
  simp at q0 q1 q2 q3 q4
  have HZ := fin_ex P5.out D5.out (Nat.le_refl _) HG.out.1 HG.out.2.1 X5.out (.string y.op) (.string y.nm) (.int .i64 y.n) (.slice AL mL cL) (.int .i64 y.a)
  refine bodyPost_ret (v := exV y.op y.nm y.n (.slice AL mL cL) y.a) (by simp [results, Tryd.results61, go_sem, q0, q1, q2, q3, q4]) rfl ⟨_, _, _, _, rfl, HZ.1, HZ.2.1, I1.out, I2.out, HZ.2.2⟩
set_option maxHeartbeats 6400000 in
set_option maxRecDepth 100000 in
theorem named_any {f : Nat} (ih : PXs B b len M k f) (hd : d ≤ 32) (h : Par B b len M k d s w) (hf : 8 * s.ts.length ≤ f) :
    Calls Tryd.prog 63 #[.pointer (some ⟨b, 0, none⟩)] w (RetX B b len M k d (if isF len [91] (takeF s) then
        (expF len [93] (exF len f (.parts 1) (d + 1) (enterF len d (takeF s))).1, .mk (bA oAt) (bA (nxt len s).text) 0 [(exF len f (.parts 1) (d + 1) (enterF len d (takeF s))).2] (nxt len s).at_)
      else (takeF s, .mk (bA oName) (bA (nxt len s).text) 0 [] (nxt len s).at_)) w) := by
  obtain ⟨W0, hW0⟩ : ∃ W0, W0 = w.alloc (.cells #[.string ⟨#[]⟩, .string ⟨#[]⟩, .int .i64 0, .slice none 0 0, .int .i64 0] 24) := ⟨_, rfl⟩
  have B0 : Hid (Below w.heap.size w W0) := Lib.hid (by rw [hW0]; exact (Below.refl _ _).alloc (Nat.le_refl _) _)
  have K0 : Hid (Blk W0 w.heap.size 24 #[.string ⟨#[]⟩, .string ⟨#[]⟩, .int .i64 0, .slice none 0 0, .int .i64 0]) := Lib.hid (by rw [hW0]; exact Blk.new w _ _)
  have P0 := Lib.hid (h.below B0.out)
  have D0 := Lib.hid (Pd.of_below B0.out b)
  have HW0 := Lib.hid hW0
  have HG : Hid (b ≠ w.heap.size ∧ B ≤ w.heap.size ∧ b < w.heap.size) := Lib.hid ⟨Nat.ne_of_lt h.lt, Nat.le_trans h.lo (Nat.le_of_lt h.lt), h.lt⟩
  have HTk := Lib.hid (take_any P0.out)
  unfold tkV at HTk
  obtain ⟨an, han⟩ : ∃ q, q = (nxt len s).at_ := ⟨_, rfl⟩
  have HAn : Hid (In64 (an : Int)) := Lib.hid (in64_small (by rw [han]; have := (nxt_b (len := len) h.hl h.tb).1; omega))
  obtain ⟨tx, htx⟩ : ∃ q, q = bA (nxt len s).text := ⟨_, rfl⟩
  rw [← han, ← htx] at HTk ⊢
  obtain ⟨s1, hs1⟩ : ∃ q, q = takeF s := ⟨_, rfl⟩
  have HLn : Hid (8 * s1.ts.length ≤ f) := Lib.hid (by rw [hs1, take_len]; omega)
  rw [← hs1] at HTk ⊢
  obtain ⟨bi, hbi⟩ : ∃ q, q = isF len [91] s1 := ⟨_, rfl⟩
  have HIs : Hid (∀ w, Par B b len M k d s1 w → Calls Tryd.prog 38 #[.pointer (some ⟨b, 0, none⟩), .string ⟨#[91]⟩] w fun e w' => e = .returned (.bool bi) ∧ Below w.heap.size w w') := Lib.hid fun w h => by rw [hbi]; exact is_any [91] h
  have HTx : Hid (bi = true → (nxt len s1).text ≠ []) := Lib.hid (fun e => by rw [hbi] at e; unfold isF at e; intro q; rw [q] at e; cases e)
  rw [← hbi]
  obtain ⟨r, hr⟩ : ∃ q, q = (expF len [93] (exF len f (.parts 1) (d + 1) (enterF len d s1)).1, (exF len f (.parts 1) (d + 1) (enterF len d s1)).2) := ⟨_, rfl⟩
  have HOp : Hid (∀ w, Par B b len M k d s1 w → bi = true → Calls Tryd.prog 61 #[.pointer (some ⟨b, 0, none⟩), .string ⟨#[93]⟩] w (RetX B b len M k d r w)) := Lib.hid fun w h e => by rw [hr]; exact opened_any ih [93] hd h (HTx.out e) HLn.out
  have HR : Hid (r = (expF len [93] (exF len f (.parts 1) (d + 1) (enterF len d s1)).1, (exF len f (.parts 1) (d + 1) (enterF len d s1)).2)) := Lib.hid hr
  rw [show (expF len [93] (exF len f (.parts 1) (d + 1) (enterF len d s1)).1, Ex.mk (bA oAt) tx 0 [(exF len f (.parts 1) (d + 1) (enterF len d s1)).2] (an : Int)) = (r.1, Ex.mk (bA oAt) tx 0 [r.2] (an : Int)) by rw [hr]]
  clear hW0 han htx hs1 hbi hr h ih hf HTx HLn
  obtain ⟨s2, y⟩ := r
  clear HR
  go_enter Tryd.func63, Tryd.ntmps63
  go_upto_region 1 with fail
  rw [← HW0.out]
  go_upto_region 2 with (go_at_call 37; have HX := HTk.out; (with_reducible refine HX.mono ?_); clear HX; rintro e w1 ⟨rfl, hp, hd1⟩; have P1 := Lib.hid hp; have D1 := Lib.hid (D0.out.trans hd1); have K1 := Lib.hid (hd1.blk K0.out HG.out.1.symm); clear hp hd1)
  go_upto_region 3 with fail
  obtain ⟨Wa, hWa⟩ : ∃ q, q = w1.alloc (.cells #[.int .i64 ((nxt len s).kind : Int), .string tx, .int .i64 ((nxt len s).n : Int), .int .i64 (an : Int)] 77) := ⟨_, rfl⟩
  have Ea : Hid (Below w1.heap.size w1 Wa) := Lib.hid (by rw [hWa]; exact (Below.refl _ _).alloc (Nat.le_refl _) _)
  have Za : Hid (Wa.heap.size = w1.heap.size + 1) := Lib.hid (by rw [hWa, World.size_alloc])
  rw [← hWa]
  clear hWa
  obtain ⟨W2, hW2⟩ : ∃ q, q = Wa.alloc (.cells #[.string ⟨#[110, 97, 109, 101]⟩, .string tx, .int .i64 0, .slice none 0 0, .int .i64 (an : Int)] 24) := ⟨_, rfl⟩
  have E2 : Hid (Below Wa.heap.size Wa W2) := Lib.hid (by rw [hW2]; exact (Below.refl _ _).alloc (Nat.le_refl _) _)
  have B2 := Lib.hid (thru Ea.out E2.out)
  have P2 := Lib.hid (P1.out.below B2.out)
  have D2 := Lib.hid (D1.out.then_ B2.out)
  have K2 := Lib.hid (K1.out.below B2.out K1.out.lt)
  have T2 : Hid (Blk W2 (w1.heap.size + 1) 24 #[.string ⟨#[110, 97, 109, 101]⟩, .string tx, .int .i64 0, .slice none 0 0, .int .i64 (an : Int)]) := Lib.hid (by rw [hW2, ← Za.out]; exact Blk.new Wa _ _)
  have HT : Hid (w.heap.size ≠ w1.heap.size + 1 ∧ b ≠ w1.heap.size + 1 ∧ w.heap.size ≤ w1.heap.size + 1 ∧ B ≤ w1.heap.size + 1) := Lib.hid (by have := K1.out.lt; have := P1.out.lt; have := HG.out.2.1; exact ⟨by omega, by omega, by omega, by omega⟩)
  rw [← hW2]
  clear hW2 HTk
  cases bi
  · go_upto_region 5 with (go_at_call 38; have HX := HIs.out _ P2.out; (with_reducible refine HX.mono ?_); clear HX; rintro e w3 ⟨rfl, hb⟩; have P3 := Lib.hid (P2.out.below hb); have D3 := Lib.hid (D2.out.then_ hb); have K3 := Lib.hid (K2.out.below hb K2.out.lt); have T3 := Lib.hid (T2.out.below hb T2.out.lt); clear hb)
    have X3 : Hid (ExR (fun q => w.heap.size ≤ q ∧ q < w3.heap.size ∧ q ≠ w.heap.size) (0 + 1) w3 [] (.slice none 0 0)) := Lib.hid exr_nil
    have t0 := T3.out.cell 0
    have t1 := T3.out.cell 1
    have t2 := T3.out.cell 2
    have t3 := T3.out.cell 3
    have t4 := T3.out.cell 4
    simp at t0 t1 t2 t3 t4
    have r0 := K3.out.cell 0
    have r1 := K3.out.cell 1
    have r2 := K3.out.cell 2
    have r3 := K3.out.cell 3
    have r4 := K3.out.cell 4
    have rf0 := K3.out.frozen 0
    have rf1 := K3.out.frozen 1
    have rf2 := K3.out.frozen 2
    have rf3 := K3.out.frozen 3
    have rf4 := K3.out.frozen 4
    have rl := K3.out.lt
    simp at r0 r1 r2 r3 r4
    go_wp2
    have q := ex_box K3.out (.string ⟨#[110, 97, 109, 101]⟩) (.string tx) (.int .i64 0) (.slice none 0 0) (.int .i64 (an : Int))
    have q0 := q.cell 0
    have q1 := q.cell 1
    have q2 := q.cell 2
    have q3 := q.cell 3
    have q4 := q.cell 4
    simp at q0 q1 q2 q3 q4
    have HZ := fin_ex P3.out D3.out (Nat.le_refl _) HG.out.1 HG.out.2.1 X3.out (.string ⟨#[110, 97, 109, 101]⟩) (.string tx) (.int .i64 0) (.slice none 0 0) (.int .i64 (an : Int))
    refine bodyPost_ret (v := exV ⟨#[110, 97, 109, 101]⟩ tx 0 (.slice none 0 0) (an : Int)) (by simp [results, Tryd.results63, go_sem, q0, q1, q2, q3, q4]) rfl ⟨_, _, _, _, rfl, HZ.1, HZ.2.1, in64_zero, HAn.out, HZ.2.2⟩
  · have HO2 := Lib.hid (fun w h => HOp.out w h rfl)
    clear HOp
    go_upto_region 4 with (go_at_call 38; have HX := HIs.out _ P2.out; (with_reducible refine HX.mono ?_); clear HX; rintro e w3 ⟨rfl, hb⟩; have P3 := Lib.hid (P2.out.below hb); have D3 := Lib.hid (D2.out.then_ hb); have K3 := Lib.hid (K2.out.below hb K2.out.lt); have T3 := Lib.hid (T2.out.below hb T2.out.lt); have S3 := Lib.hid (Nat.lt_of_lt_of_le T2.out.lt hb.size); clear hb)
    go_upto_region 5 with (go_at_call 61; have HX := HO2.out _ P3.out; (with_reducible refine HX.mono ?_); clear HX; rintro e w4 ⟨nL, AL, mL, cL, rfl, hp, hd4, hi1, hi2, hr4⟩; have P4 := Lib.hid hp; have D4 := Lib.hid (D3.out.trans hd4); have K4 := Lib.hid (hd4.blk K3.out HG.out.1.symm); have T4 := Lib.hid (hd4.blk T3.out HT.out.2.1.symm); have R4 := Lib.hid hr4; have I1 := Lib.hid hi1; have I2 := Lib.hid hi2; have S4 := Lib.hid hd4.size; have t0 := T4.out.cell 0; have t1 := T4.out.cell 1; have t2 := T4.out.cell 2; have t3 := T4.out.cell 3; have tf0 := T4.out.frozen 0; have tf1 := T4.out.frozen 1; have tf2 := T4.out.frozen 2; have tf3 := T4.out.frozen 3; have tl := T4.out.lt; simp at t0 t1 t2 t3; clear hp hd4 hr4 hi1 hi2)
    obtain ⟨w5, hw5⟩ : ∃ q, q = (w4.setCell ⟨w1.heap.size + 1, 0, none⟩ (.string ⟨#[97, 116]⟩)).setCell ⟨w1.heap.size + 1, 3, none⟩ (.slice (some ⟨w4.heap.size, 0, none⟩) 1 1) := ⟨_, rfl⟩
    have Z5 : Hid (w5.heap.size = w4.heap.size) := Lib.hid (by rw [hw5]; simp [World.setCell])
    have P5 : Hid (Par B b len M k d s2 w5) := Lib.hid (by rw [hw5]; exact (P4.out.far HT.out.2.1 HT.out.2.2.2 _).far HT.out.2.1 HT.out.2.2.2 _)
    have D5 : Hid (Pd b w w5) := Lib.hid (by rw [hw5]; exact (D4.out.fresh (p := ⟨w1.heap.size + 1, 0, none⟩) HT.out.2.2.1 _).fresh (p := ⟨w1.heap.size + 1, 3, none⟩) HT.out.2.2.1 _)
    have K5 : Hid (Blk w5 w.heap.size 24 #[.string ⟨#[]⟩, .string ⟨#[]⟩, .int .i64 0, .slice none 0 0, .int .i64 0]) := Lib.hid (by rw [hw5]; exact (K4.out.far HT.out.1 _).far HT.out.1 _)
    have T5 : Hid (Blk w5 (w1.heap.size + 1) 24 #[.string ⟨#[97, 116]⟩, .string tx, .int .i64 0, .slice (some ⟨w4.heap.size, 0, none⟩) 1 1, .int .i64 (an : Int)]) := Lib.hid (by rw [hw5]; exact (T4.out.set_ 0 _).set_ 3 _)
    have R5 : Hid (ExR (fun q => w3.heap.size ≤ q ∧ q < w4.heap.size) nL w5 y.l (.slice AL mL cL)) := Lib.hid (by rw [hw5]; exact R4.out.kept fun q hq => (Below.heap_setCell _ _ _ _ (show q ≠ w1.heap.size + 1 by have := S3.out; have := hq.1; omega)).trans (Below.heap_setCell _ _ _ _ (show q ≠ w1.heap.size + 1 by have := S3.out; have := hq.1; omega)))
    rw [← hw5]
    clear hw5
    clear t0 t1 t2 t3 tf0 tf1 tf2 tf3 tl
    obtain ⟨W6, hW6⟩ : ∃ q, q = w5.alloc (.cells #[.string y.op, .string y.nm, .int .i64 y.n, .slice AL mL cL, .int .i64 y.a] 24) := ⟨_, rfl⟩
    have E6 : Hid (Below w5.heap.size w5 W6) := Lib.hid (by rw [hW6]; exact (Below.refl _ _).alloc (Nat.le_refl _) _)
    have P6 := Lib.hid (P5.out.below E6.out)
    have D6 := Lib.hid (D5.out.then_ E6.out)
    have K6 := Lib.hid (K5.out.below E6.out K5.out.lt)
    have T6 := Lib.hid (T5.out.below E6.out T5.out.lt)
    have N6 : Hid (Blk W6 w4.heap.size 24 #[.string y.op, .string y.nm, .int .i64 y.n, .slice AL mL cL, .int .i64 y.a]) := Lib.hid (by rw [hW6, ← Z5.out]; exact Blk.new w5 _ _)
    have X6 : Hid (ExR (fun q => w.heap.size ≤ q ∧ q < W6.heap.size ∧ q ≠ w.heap.size) (nL + 1) W6 [y] (.slice (some ⟨w4.heap.size, 0, none⟩) 1 1)) := Lib.hid (exr_one N6.out ⟨by have := S3.out; have := S4.out; have := K1.out.lt; omega, N6.out.lt, by have := S3.out; have := S4.out; have := K1.out.lt; omega⟩ I1.out I2.out ((R5.out.below E6.out (fun q hq => by rw [Z5.out]; exact hq.2)).wide (fun q hq => ⟨by have := S3.out; have := K1.out.lt; have := hq.1; omega, Nat.lt_of_lt_of_le hq.2 (by rw [← Z5.out]; exact E6.out.size), by have := S3.out; have := K1.out.lt; have := hq.1; omega⟩)))
    rw [← hW6]
    clear hW6
    have t0 := T6.out.cell 0
    have t1 := T6.out.cell 1
    have t2 := T6.out.cell 2
    have t3 := T6.out.cell 3
    have t4 := T6.out.cell 4
    simp at t0 t1 t2 t3 t4
    have r0 := K6.out.cell 0
    have r1 := K6.out.cell 1
    have r2 := K6.out.cell 2
    have r3 := K6.out.cell 3
    have r4 := K6.out.cell 4
    have rf0 := K6.out.frozen 0
    have rf1 := K6.out.frozen 1
    have rf2 := K6.out.frozen 2
    have rf3 := K6.out.frozen 3
    have rf4 := K6.out.frozen 4
    have rl := K6.out.lt
    simp at r0 r1 r2 r3 r4
    go_wp2
    have q := ex_box K6.out (.string ⟨#[97, 116]⟩) (.string tx) (.int .i64 0) (.slice (some ⟨w4.heap.size, 0, none⟩) 1 1) (.int .i64 (an : Int))
    have q0 := q.cell 0
    have q1 := q.cell 1
    have q2 := q.cell 2
    have q3 := q.cell 3
    have q4 := q.cell 4
    simp at q0 q1 q2 q3 q4
    have HZ := fin_ex P6.out D6.out (Nat.le_refl _) HG.out.1 HG.out.2.1 X6.out (.string ⟨#[97, 116]⟩) (.string tx) (.int .i64 0) (.slice (some ⟨w4.heap.size, 0, none⟩) 1 1) (.int .i64 (an : Int))
    refine bodyPost_ret (v := exV ⟨#[97, 116]⟩ tx 0 (.slice (some ⟨w4.heap.size, 0, none⟩) 1 1) (an : Int)) (by simp [results, Tryd.results63, go_sem, q0, q1, q2, q3, q4]) rfl ⟨_, _, _, _, rfl, HZ.1, HZ.2.1, in64_zero, HAn.out, HZ.2.2⟩
end
end Go.Proofs.YteaongdlbleehaaDoor
