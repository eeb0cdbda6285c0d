/- Put together of: PsEx0, PsEx1, PsEx2, PsEx3. -/
import Derived.Test.YteaongdlbleehaaGreatDoorPsSmall
import Derived.Test.YteaongdlbleehaaGreatDoorTrBase
import Derived.Deep.RegionHeld3
import Derived.Deep.LoopGhost
import Derived.Deep.CutBlock
import Derived.Deep.DeepCutAuto
/- The parse layer: an expression that is read. -/
namespace Go.Proofs.YteaongdlbleehaaGreatDoor
open Go.RowKit
/-- What a method that reads an expression tells: its value, what is left; its rows are new. -/
def RetX (B b len : Nat) (M : Value) (k d : Nat) (r : PS × Ex) (w : World) (e : Ending) (w' : World) : Prop :=
  ∃ n A m c, e = .returned (exV r.2.op r.2.nm r.2.n (.slice A m c) r.2.a) ∧ Par B b len M k d r.1 w' ∧ Pd b w w' ∧ In64 r.2.n ∧ In64 r.2.a ∧ ExR (fun q => w.heap.size ≤ q ∧ q < w'.heap.size) n w' r.2.l (.slice A m c)
/-- How deep it may be. -/
def DOK (d : Nat) (s : PS) : Prop := d ≤ 33 ∧ (s.ts ≠ [] → d ≤ 32)
def PXp (B b len : Nat) (M : Value) (k f : Nat) : Prop := ∀ (d : Nat) (s : PS) (w : World), Par B b len M k d s w → DOK d s → 8 * s.ts.length + 1 ≤ f → Calls Tryz.prog 99 #[.pointer (some ⟨b, 0, none⟩)] w (RetX B b len M k d (exF len f .part d s) w)
def PXs (B b len : Nat) (M : Value) (k f : Nat) : Prop := ∀ (o d : Nat) (s : PS) (w : World), 1 ≤ o → o ≤ 6 → Par B b len M k d s w → DOK d s → 8 * s.ts.length + 8 ≤ f + o → Calls Tryz.prog 71 #[.pointer (some ⟨b, 0, none⟩), .int .i64 (o : Int)] w (RetX B b len M k d (exF len f (.parts o) d s) w)
section
variable {B b len k d n : Nat} {M : Value} {s : PS} {w w1 : World}
theorem five_kept {g : Nat} (a c e f h : Value) : (∀ x, x ≠ g → (((((w.setCell ⟨g, 0, none⟩ a).setCell ⟨g, 1, none⟩ c).setCell ⟨g, 2, none⟩ e).setCell ⟨g, 3, none⟩ f).setCell ⟨g, 4, none⟩ h).heap[x]? = w.heap[x]?) ∧ (((((w.setCell ⟨g, 0, none⟩ a).setCell ⟨g, 1, none⟩ c).setCell ⟨g, 2, none⟩ e).setCell ⟨g, 3, none⟩ f).setCell ⟨g, 4, none⟩ h).heap.size = w.heap.size := by
  refine ⟨fun x hx => ?_, by simp [World.setCell]⟩
  rw [Below.heap_setCell _ _ _ _ hx, Below.heap_setCell _ _ _ _ hx, Below.heap_setCell _ _ _ _ hx, Below.heap_setCell _ _ _ _ hx, Below.heap_setCell _ _ _ _ hx]
theorem ex_box {g : Nat} (h : Blk w g 52 #[.string ⟨#[]⟩, .string ⟨#[]⟩, .int .i64 0, .slice none 0 0, .int .i64 0]) (a c e f i : Value) : Blk (((((w.setCell ⟨g, 0, none⟩ a).setCell ⟨g, 1, none⟩ c).setCell ⟨g, 2, none⟩ e).setCell ⟨g, 3, none⟩ f).setCell ⟨g, 4, none⟩ i) g 52 #[a, c, e, f, i] := ((((h.set_ 0 _).set_ 1 _).set_ 2 _).set_ 3 _).set_ 4 _
/-- Behind the stores of a result. -/
theorem fin_ex {W : World} {g : Nat} {l : List Ex} {L : Value} (hp : Par B b len M k d s W) (hd : Pd b w W) (hg : w.heap.size ≤ g) (hgb : b ≠ g) (hB : B ≤ g) (hx : ExR (fun q => w.heap.size ≤ q ∧ q < W.heap.size ∧ q ≠ g) n W l L) (a c e f i : Value) :
    Par B b len M k d s (((((W.setCell ⟨g, 0, none⟩ a).setCell ⟨g, 1, none⟩ c).setCell ⟨g, 2, none⟩ e).setCell ⟨g, 3, none⟩ f).setCell ⟨g, 4, none⟩ i) ∧
    Pd b w (((((W.setCell ⟨g, 0, none⟩ a).setCell ⟨g, 1, none⟩ c).setCell ⟨g, 2, none⟩ e).setCell ⟨g, 3, none⟩ f).setCell ⟨g, 4, none⟩ i) ∧
    ExR (fun q => w.heap.size ≤ q ∧ q < (((((W.setCell ⟨g, 0, none⟩ a).setCell ⟨g, 1, none⟩ c).setCell ⟨g, 2, none⟩ e).setCell ⟨g, 3, none⟩ f).setCell ⟨g, 4, none⟩ i).heap.size) n (((((W.setCell ⟨g, 0, none⟩ a).setCell ⟨g, 1, none⟩ c).setCell ⟨g, 2, none⟩ e).setCell ⟨g, 3, none⟩ f).setCell ⟨g, 4, none⟩ i) l L := by
  have F := five_kept (w := W) (g := g) a c e f i
  refine ⟨((((hp.far hgb hB _).far hgb hB _).far hgb hB _).far hgb hB _).far hgb hB _, ((((hd.fresh (p := ⟨g, 0, none⟩) hg _).fresh (p := ⟨g, 1, none⟩) hg _).fresh (p := ⟨g, 2, none⟩) hg _).fresh (p := ⟨g, 3, none⟩) hg _).fresh (p := ⟨g, 4, none⟩) hg _, ?_⟩
  rw [F.2]
  exact (hx.kept fun q h => F.1 q h.2.2).wide fun q h => ⟨h.1, h.2.1⟩
/-- Rows outlast what writes to the parser alone. -/
theorem ExR.pd {P : Nat → Prop} {l : List Ex} {v : Value} (h : ExR P n w l v) (hd : Pd b w w1) (hP : ∀ q, P q → q < w.heap.size ∧ q ≠ b) : ExR P n w1 l v := h.kept fun q hq => hd.block q (hP q hq).1 (hP q hq).2
theorem ExR.set5 {W : World} {g : Nat} {l : List Ex} {v : Value} (h : ExR (fun q => w.heap.size ≤ q ∧ q < W.heap.size ∧ q ≠ g) n W l v) (hb : b < w.heap.size) (u : Value) : ExR (fun q => w.heap.size ≤ q ∧ q < (W.setCell ⟨b, 5, none⟩ u).heap.size ∧ q ≠ g) n (W.setCell ⟨b, 5, none⟩ u) l v :=
  (h.kept fun q hq => Below.heap_setCell _ _ _ _ (by have := hq.1; show q ≠ b; omega)).wide fun q hq => ⟨hq.1, by simpa [World.setCell] using hq.2.1, hq.2.2⟩
theorem exr_nil {P : Nat → Prop} : ExR P (n + 1) w [] (.slice none 0 0) := ⟨none, 0, rfl, Nat.le_refl _, by simp, fun i x h => by simp at h⟩
theorem exr_one {P : Nat → Prop} {x : Ex} {g : Nat} {t : TypeId} {L : Value} (h : Blk w g t #[.string x.op, .string x.nm, .int .i64 x.n, L, .int .i64 x.a]) (hg : P g) (h1 : In64 x.n) (h2 : In64 x.a) (hr : ExR P n w x.l L) : ExR P (n + 1) w [x] (.slice (some ⟨g, 0, none⟩) 1 1) := by
  refine ⟨some ⟨g, 0, none⟩, 1, rfl, Nat.le_refl _, by simp, fun i y hy => ?_⟩
  cases i with
  | zero =>
    simp at hy; subst hy
    exact ⟨g, 0, L, rfl, hg, ⟨h.cell 0, h.cell 1, h.cell 2, h.cell 3, h.cell 4⟩, h1, h2, hr⟩
  | succ i => simp at hy
theorem dok_enter (hg : s.good) (hd : d ≤ 32) : DOK (d + 1) (enterF len d s) := by
  refine ⟨by omega, fun h => ?_⟩
  by_cases h32 : 32 ≤ d
  · exfalso
    apply h
    unfold enterF takeF
    rw [if_pos h32]
    show (failF len 131 s).ts.tail = []
    unfold failF
    split
    · rfl
    · rename_i h0; rw [hg h0]; rfl
  · omega
theorem in64_zero : In64 0 := by unfold In64; omega
theorem in64_small {a : Nat} (h : a ≤ 1152921504606846976) : In64 (a : Int) := by unfold In64; omega
end
end Go.Proofs.YteaongdlbleehaaGreatDoor

/- The parse layer: signs ahead, and brackets. -/
namespace Go.Proofs.YteaongdlbleehaaGreatDoor
open Go.RowKit
attribute [local go_sem] field_at field_tx field_nn
section
variable {B b len k d n : Nat} {M : Value} {s : PS} {w : World}
set_option maxHeartbeats 6400000 in
set_option maxRecDepth 100000 in
theorem opp_any {f : Nat} (ih : PXp B b len M k f) (op : Bs) (hd : d ≤ 32) (h : Par B b len M k d s w) (ht : (nxt len s).text ≠ []) (hf : 8 * s.ts.length + 1 ≤ f + 1) :
    Calls Tryz.prog 130 #[.pointer (some ⟨b, 0, none⟩), .string (bA op)] w (RetX B b len M k d ((exF len f .part (d + 1) (enterF len d s)).1, .mk (bA op) ⟨#[]⟩ 0 [(exF len f .part (d + 1) (enterF len d s)).2] (nxt len s).at_) w) := by
  obtain ⟨W0, hW0⟩ : ∃ W0, W0 = w.alloc (.cells #[.string ⟨#[]⟩, .string ⟨#[]⟩, .int .i64 0, .slice none 0 0, .int .i64 0] 52) := ⟨_, rfl⟩
  have B0 : Hid (Below w.heap.size w W0) := Lib.hid (by rw [hW0]; exact (Below.refl _ _).alloc (Nat.le_refl _) _)
  have K0 : Hid (Blk W0 w.heap.size 52 #[.string ⟨#[]⟩, .string ⟨#[]⟩, .int .i64 0, .slice none 0 0, .int .i64 0]) := Lib.hid (by rw [hW0]; exact Blk.new w _ _)
  have P0 := Lib.hid (h.below B0.out)
  have D0 := Lib.hid (Pd.of_below B0.out b)
  have HW0 := Lib.hid hW0
  have HG : Hid (b ≠ w.heap.size ∧ B ≤ w.heap.size ∧ b < w.heap.size) := Lib.hid ⟨Nat.ne_of_lt h.lt, Nat.le_trans h.lo (Nat.le_of_lt h.lt), h.lt⟩
  have HN := Lib.hid (next_any P0.out)
  unfold tkV at HN
  obtain ⟨an, han⟩ : ∃ q, q = (nxt len s).at_ := ⟨_, rfl⟩
  have HAn : Hid (In64 (an : Int)) := Lib.hid (in64_small (by rw [han]; have := (nxt_b (len := len) h.hl h.tb).1; omega))
  rw [← han] at HN ⊢
  have HDk := Lib.hid (dok_enter (len := len) (s := s) h.good hd)
  have HLn : Hid (8 * (enterF len d s).ts.length + 1 ≤ f) := Lib.hid (by have := enter_len (len := len) (s := s) d ht; omega)
  obtain ⟨s1, hs1⟩ : ∃ q, q = enterF len d s := ⟨_, rfl⟩
  have HEn : Hid (∀ w, Par B b len M k d s w → Calls Tryz.prog 140 #[.pointer (some ⟨b, 0, none⟩)] w (RetP B b len M k (d + 1) (.tuple #[]) s1 w)) := Lib.hid fun w h => by rw [hs1]; exact enter_any h (by omega)
  rw [← hs1] at HDk HLn ⊢
  obtain ⟨r, hr⟩ : ∃ q, q = exF len f .part (d + 1) s1 := ⟨_, rfl⟩
  have HPt : Hid (∀ w, Par B b len M k (d + 1) s1 w → Calls Tryz.prog 99 #[.pointer (some ⟨b, 0, none⟩)] w (RetX B b len M k (d + 1) r w)) := Lib.hid fun w h => by rw [hr]; exact ih _ _ _ h HDk.out HLn.out
  rw [← hr]
  obtain ⟨s2, y⟩ := r
  have hdw : IntKind.i64.wrap ((d : Int) + 1 - 1) = (d : Int) := by rw [IntWalk.i64_in _ (by omega)]; omega
  obtain ⟨OP, hOP⟩ : ∃ q, q = bA op := ⟨_, rfl⟩
  rw [← hOP]
  clear hW0 han hs1 hr ht hf h hOP ih
  go_enter Tryz.func130, Tryz.ntmps130
  go_upto_region 1 with fail
  rw [← HW0.out]
  go_upto_region 2 with (go_at_call 86; have HX := HN.out; (with_reducible refine HX.mono ?_); clear HX; rintro e w1 ⟨rfl, hb⟩; have B1 := Lib.hid (thru B0.out hb); have P1 := Lib.hid (P0.out.below hb); have K1 := Lib.hid (K0.out.below hb K0.out.lt); clear hb)
  obtain ⟨W2, hW2⟩ : ∃ W2, W2 = w1.alloc (.cells #[.string OP, .string ⟨#[]⟩, .int .i64 0, .slice none 0 0, .int .i64 (an : Int)] 52) := ⟨_, rfl⟩
  have E2 : Hid (Below w1.heap.size w1 W2) := Lib.hid (by rw [hW2]; exact (Below.refl _ _).alloc (Nat.le_refl _) _)
  have D2 := Lib.hid (Pd.of_below (thru B1.out E2.out) b)
  have P2 := Lib.hid (P1.out.below E2.out)
  have K2 := Lib.hid (K1.out.below E2.out K1.out.lt)
  have T2 : Hid (Blk W2 w1.heap.size 52 #[.string OP, .string ⟨#[]⟩, .int .i64 0, .slice none 0 0, .int .i64 (an : Int)]) := Lib.hid (by rw [hW2]; exact Blk.new w1 _ _)
  have HT : Hid (w.heap.size ≠ w1.heap.size ∧ b ≠ w1.heap.size ∧ w.heap.size ≤ w1.heap.size ∧ B ≤ w1.heap.size) := Lib.hid ⟨Nat.ne_of_lt K1.out.lt, Nat.ne_of_lt P1.out.lt, B1.out.size, Nat.le_trans HG.out.2.1 B1.out.size⟩
  rw [← hW2]
  clear hW2
  go_upto_region 3 with (go_at_call 140; have HX := HEn.out _ P2.out; (with_reducible refine HX.mono ?_); clear HX; rintro e w3 ⟨rfl, hp, hd3⟩; have P3 := Lib.hid hp; have D3 := Lib.hid (D2.out.trans hd3); have K3 := Lib.hid (hd3.blk K2.out HG.out.1.symm); have T3 := Lib.hid (hd3.blk T2.out HT.out.2.1.symm); have S3 := Lib.hid (Nat.lt_of_lt_of_le T2.out.lt hd3.size); clear hp hd3)
  go_upto_region 4 with (go_at_call 99; have HX := HPt.out _ P3.out; (with_reducible refine HX.mono ?_); clear HX; rintro e w4 ⟨nL, AL, mL, cL, rfl, hp, hd4, hi1, hi2, hr4⟩; have P4 := Lib.hid hp; have D4 := Lib.hid (D3.out.trans hd4); have K4 := Lib.hid (hd4.blk K3.out HG.out.1.symm); have T4 := Lib.hid (hd4.blk T3.out HT.out.2.1.symm); have R4 := Lib.hid hr4; have I1 := Lib.hid hi1; have I2 := Lib.hid hi2; have S4 := Lib.hid hd4.size; have t0 := T4.out.cell 0; have t1 := T4.out.cell 1; have t2 := T4.out.cell 2; have t3 := T4.out.cell 3; have tf0 := T4.out.frozen 0; have tf1 := T4.out.frozen 1; have tf2 := T4.out.frozen 2; have tf3 := T4.out.frozen 3; have tl := T4.out.lt; simp at t0 t1 t2 t3; clear hp hd4 hr4 hi1 hi2)
  have E4 : Hid (w1.heap.size < w4.heap.size) := Lib.hid (Nat.lt_of_lt_of_le S3.out S4.out)
  obtain ⟨w5, hw5⟩ : ∃ q, q = w4.setCell ⟨w1.heap.size, 3, none⟩ (.slice (some ⟨w4.heap.size, 0, none⟩) 1 1) := ⟨_, rfl⟩
  have Z5 : Hid (w5.heap.size = w4.heap.size) := Lib.hid (by rw [hw5]; simp [World.setCell])
  have P5 : Hid (Par B b len M k (d + 1) s2 w5) := Lib.hid (by rw [hw5]; exact P4.out.far HT.out.2.1 HT.out.2.2.2 _)
  have D5 : Hid (Pd b w w5) := Lib.hid (by rw [hw5]; exact D4.out.fresh HT.out.2.2.1 _)
  have K5 : Hid (Blk w5 w.heap.size 52 #[.string ⟨#[]⟩, .string ⟨#[]⟩, .int .i64 0, .slice none 0 0, .int .i64 0]) := Lib.hid (by rw [hw5]; exact K4.out.far HT.out.1 _)
  have T5 : Hid (Blk w5 w1.heap.size 52 #[.string OP, .string ⟨#[]⟩, .int .i64 0, .slice (some ⟨w4.heap.size, 0, none⟩) 1 1, .int .i64 (an : Int)]) := Lib.hid (by rw [hw5]; exact T4.out.set_ 3 _)
  have R5 : Hid (ExR (fun q => w3.heap.size ≤ q ∧ q < w4.heap.size) nL w5 y.l (.slice AL mL cL)) := Lib.hid (by rw [hw5]; exact R4.out.kept fun q hq => Below.heap_setCell _ _ _ _ (by have := S3.out; have := hq.1; show q ≠ w1.heap.size; omega))
  rw [← hw5]
  clear hw5
  clear t0 t1 t2 t3 tf0 tf1 tf2 tf3 tl
  obtain ⟨W6, hW6⟩ : ∃ q, q = w5.alloc (.cells #[.string y.op, .string y.nm, .int .i64 y.n, .slice AL mL cL, .int .i64 y.a] 52) := ⟨_, rfl⟩
  have E6 : Hid (Below w5.heap.size w5 W6) := Lib.hid (by rw [hW6]; exact (Below.refl _ _).alloc (Nat.le_refl _) _)
  have P6 := Lib.hid (P5.out.below E6.out)
  have D6 := Lib.hid (D5.out.then_ E6.out)
  have K6 := Lib.hid (K5.out.below E6.out K5.out.lt)
  have T6 := Lib.hid (T5.out.below E6.out T5.out.lt)
  have N6 : Hid (Blk W6 w4.heap.size 52 #[.string y.op, .string y.nm, .int .i64 y.n, .slice AL mL cL, .int .i64 y.a]) := Lib.hid (by rw [hW6, ← Z5.out]; exact Blk.new w5 _ _)
  have X6 : Hid (ExR (fun q => w.heap.size ≤ q ∧ q < W6.heap.size ∧ q ≠ w.heap.size) (nL + 1) W6 [y] (.slice (some ⟨w4.heap.size, 0, none⟩) 1 1)) := Lib.hid (exr_one N6.out ⟨by have := E4.out; have := HT.out.2.2.1; omega, N6.out.lt, by have := E4.out; have := HT.out.2.2.1; omega⟩ I1.out I2.out ((R5.out.below E6.out (fun q hq => by rw [Z5.out]; exact hq.2)).wide (fun q hq => ⟨by have := S3.out; have := HT.out.2.2.1; have := hq.1; omega, Nat.lt_of_lt_of_le hq.2 (by rw [← Z5.out]; exact E6.out.size), by have := S3.out; have := HT.out.2.2.1; have := hq.1; omega⟩)))
  rw [← hW6]
  clear hW6
  obtain ⟨Aq7, cq7, hq7, -⟩ := P6.out.mem
  have b5 := hq7.cell 5
  have bf := hq7.frozen 5
  have bl := hq7.lt
  simp at b5
  have P7 : Hid (Par B b len M k d _ (W6.setCell ⟨b, 5, none⟩ (.int .i64 (d : Int)))) := Lib.hid P6.out.within
  have D7 := Lib.hid (D6.out.setCell (p := ⟨b, 5, none⟩) rfl (.int .i64 (d : Int)))
  have K7 := Lib.hid (K6.out.far (p := ⟨b, 5, none⟩) HG.out.1.symm (.int .i64 (d : Int)))
  have T7 := Lib.hid (T6.out.far (p := ⟨b, 5, none⟩) HT.out.2.1.symm (.int .i64 (d : Int)))
  have X7 := Lib.hid (X6.out.set5 HG.out.2.2 (.int .i64 (d : Int)))
  clear hq7
  go_upto_region 5 with fail
  obtain ⟨W7, hW7⟩ : ∃ q, q = W6.setCell ⟨b, 5, none⟩ (.int .i64 (d : Int)) := ⟨_, rfl⟩
  rw [← hW7] at P7 D7 K7 T7 X7 ⊢
  clear hW7
  clear b5 bf bl
  have t0 := T7.out.cell 0
  have t1 := T7.out.cell 1
  have t2 := T7.out.cell 2
  have t3 := T7.out.cell 3
  have t4 := T7.out.cell 4
  simp at t0 t1 t2 t3 t4
  have r0 := K7.out.cell 0
  have r1 := K7.out.cell 1
  have r2 := K7.out.cell 2
  have r3 := K7.out.cell 3
  have r4 := K7.out.cell 4
  have rf0 := K7.out.frozen 0
  have rf1 := K7.out.frozen 1
  have rf2 := K7.out.frozen 2
  have rf3 := K7.out.frozen 3
  have rf4 := K7.out.frozen 4
  have rl := K7.out.lt
  simp at r0 r1 r2 r3 r4
  go_wp2
  have q := ex_box K7.out (.string OP) (.string ⟨#[]⟩) (.int .i64 0) (.slice (some ⟨w4.heap.size, 0, none⟩) 1 1) (.int .i64 (an : Int))
  have q0 := q.cell 0
  have q1 := q.cell 1
  have q2 := q.cell 2
  have q3 := q.cell 3
  have q4 := q.cell 4
  simp at q0 q1 q2 q3 q4
  have HZ := fin_ex P7.out D7.out (Nat.le_refl _) HG.out.1 HG.out.2.1 X7.out (.string OP) (.string ⟨#[]⟩) (.int .i64 0) (.slice (some ⟨w4.heap.size, 0, none⟩) 1 1) (.int .i64 (an : Int))
  refine bodyPost_ret (v := exV OP ⟨#[]⟩ 0 (.slice (some ⟨w4.heap.size, 0, none⟩) 1 1) (an : Int)) (by simp [results, Tryz.results130, go_sem, q0, q1, q2, q3, q4]) rfl ⟨_, _, _, _, rfl, HZ.1, HZ.2.1, in64_zero, HAn.out, HZ.2.2⟩
set_option maxHeartbeats 6400000 in
set_option maxRecDepth 100000 in
theorem pexpr_any {f : Nat} (ih : PXs B b len M k f) (h : Par B b len M k d s w) (hd : DOK d s) (hf : 8 * s.ts.length + 7 ≤ f) :
    Calls Tryz.prog 40 #[.pointer (some ⟨b, 0, none⟩)] w (RetX B b len M k d (exF len f (.parts 1) d s) w) := by
  obtain ⟨W0, hW0⟩ : ∃ W0, W0 = w.alloc (.cells #[.string ⟨#[]⟩, .string ⟨#[]⟩, .int .i64 0, .slice none 0 0, .int .i64 0] 52) := ⟨_, rfl⟩
  have B0 : Hid (Below w.heap.size w W0) := Lib.hid (by rw [hW0]; exact (Below.refl _ _).alloc (Nat.le_refl _) _)
  have K0 : Hid (Blk W0 w.heap.size 52 #[.string ⟨#[]⟩, .string ⟨#[]⟩, .int .i64 0, .slice none 0 0, .int .i64 0]) := Lib.hid (by rw [hW0]; exact Blk.new w _ _)
  have P0 := Lib.hid (h.below B0.out)
  have D0 := Lib.hid (Pd.of_below B0.out b)
  have HW0 := Lib.hid hW0
  have HG : Hid (b ≠ w.heap.size ∧ B ≤ w.heap.size ∧ b < w.heap.size) := Lib.hid ⟨Nat.ne_of_lt h.lt, Nat.le_trans h.lo (Nat.le_of_lt h.lt), h.lt⟩
  obtain ⟨r, hr⟩ : ∃ q, q = exF len f (.parts 1) d s := ⟨_, rfl⟩
  have HPt : Hid (∀ w, Par B b len M k d s w → Calls Tryz.prog 71 #[.pointer (some ⟨b, 0, none⟩), .int .i64 1] w (RetX B b len M k d r w)) := Lib.hid fun w h => by rw [hr]; exact ih 1 _ _ _ (Nat.le_refl _) (by omega) h hd (by omega)
  rw [← hr]
  obtain ⟨s2, y⟩ := r
  clear hW0 hr hf h ih hd
  go_enter Tryz.func40, Tryz.ntmps40
  go_upto_region 1 with fail
  rw [← HW0.out]
  go_wp2_with (go_at_call 71; have HX := HPt.out _ P0.out; (with_reducible refine HX.mono ?_); clear HX; rintro e w1 ⟨nL, AL, mL, cL, rfl, hp, hd1, hi1, hi2, hr1⟩; have P1 := Lib.hid hp; have D1 := Lib.hid (D0.out.trans hd1); have K1 := Lib.hid (hd1.blk K0.out HG.out.1.symm); have X1 : Hid (ExR (fun q => w.heap.size ≤ q ∧ q < w1.heap.size ∧ q ≠ w.heap.size) nL w1 y.l (.slice AL mL cL)) := Lib.hid (hr1.wide (fun q hq => ⟨Nat.le_trans B0.out.size hq.1, hq.2, by have := K0.out.lt; have := hq.1; omega⟩)); have I1 := Lib.hid hi1; have I2 := Lib.hid hi2; have r0 := K1.out.cell 0; have r1 := K1.out.cell 1; have r2 := K1.out.cell 2; have r3 := K1.out.cell 3; have r4 := K1.out.cell 4; have rf0 := K1.out.frozen 0; have rf1 := K1.out.frozen 1; have rf2 := K1.out.frozen 2; have rf3 := K1.out.frozen 3; have rf4 := K1.out.frozen 4; have rl := K1.out.lt; simp at r0 r1 r2 r3 r4; clear hp hd1 hr1 hi1 hi2)
  have q := ex_box K1.out (.string y.op) (.string y.nm) (.int .i64 y.n) (.slice AL mL cL) (.int .i64 y.a)
  have q0 := q.cell 0
  have q1 := q.cell 1
  have q2 := q.cell 2
  have q3 := q.cell 3
  have q4 := q.cell 4
  simp at q0 q1 q2 q3 q4
  have HZ := fin_ex P1.out D1.out (Nat.le_refl _) HG.out.1 HG.out.2.1 X1.out (.string y.op) (.string y.nm) (.int .i64 y.n) (.slice AL mL cL) (.int .i64 y.a)
  refine bodyPost_ret (v := exV y.op y.nm y.n (.slice AL mL cL) y.a) (by simp [results, Tryz.results40, go_sem, q0, q1, q2, q3, q4]) rfl ⟨_, _, _, _, rfl, HZ.1, HZ.2.1, I1.out, I2.out, HZ.2.2⟩
set_option maxHeartbeats 6400000 in
set_option maxRecDepth 100000 in
theorem opened_any {f : Nat} (ih : PXs B b len M k f) (cl : Bs) (hd : d ≤ 32) (h : Par B b len M k d s w) (ht : (nxt len s).text ≠ []) (hf : 8 * s.ts.length ≤ f) :
    Calls Tryz.prog 131 #[.pointer (some ⟨b, 0, none⟩), .string (bA cl)] w (RetX B b len M k d (expF len cl (exF len f (.parts 1) (d + 1) (enterF len d s)).1, (exF len f (.parts 1) (d + 1) (enterF len d s)).2) w) := by
  obtain ⟨W0, hW0⟩ : ∃ W0, W0 = w.alloc (.cells #[.string ⟨#[]⟩, .string ⟨#[]⟩, .int .i64 0, .slice none 0 0, .int .i64 0] 52) := ⟨_, rfl⟩
  have B0 : Hid (Below w.heap.size w W0) := Lib.hid (by rw [hW0]; exact (Below.refl _ _).alloc (Nat.le_refl _) _)
  have K0 : Hid (Blk W0 w.heap.size 52 #[.string ⟨#[]⟩, .string ⟨#[]⟩, .int .i64 0, .slice none 0 0, .int .i64 0]) := Lib.hid (by rw [hW0]; exact Blk.new w _ _)
  have P0 := Lib.hid (h.below B0.out)
  have D0 := Lib.hid (Pd.of_below B0.out b)
  have HW0 := Lib.hid hW0
  have HG : Hid (b ≠ w.heap.size ∧ B ≤ w.heap.size ∧ b < w.heap.size) := Lib.hid ⟨Nat.ne_of_lt h.lt, Nat.le_trans h.lo (Nat.le_of_lt h.lt), h.lt⟩
  have HDk := Lib.hid (dok_enter (len := len) (s := s) h.good hd)
  have HLn : Hid (8 * (enterF len d s).ts.length + 7 ≤ f) := Lib.hid (by have := enter_len (len := len) (s := s) d ht; omega)
  obtain ⟨s1, hs1⟩ : ∃ q, q = enterF len d s := ⟨_, rfl⟩
  have HEn : Hid (∀ w, Par B b len M k d s w → Calls Tryz.prog 140 #[.pointer (some ⟨b, 0, none⟩)] w (RetP B b len M k (d + 1) (.tuple #[]) s1 w)) := Lib.hid fun w h => by rw [hs1]; exact enter_any h (by omega)
  rw [← hs1] at HDk HLn ⊢
  obtain ⟨r, hr⟩ : ∃ q, q = exF len f (.parts 1) (d + 1) s1 := ⟨_, rfl⟩
  have HPt : Hid (∀ w, Par B b len M k (d + 1) s1 w → Calls Tryz.prog 40 #[.pointer (some ⟨b, 0, none⟩)] w (RetX B b len M k (d + 1) r w)) := Lib.hid fun w h => by rw [hr]; exact pexpr_any ih h HDk.out HLn.out
  rw [← hr]
  obtain ⟨s2, y⟩ := r
  have HXp : Hid (∀ w, Par B b len M k d s2 w → Calls Tryz.prog 51 #[.pointer (some ⟨b, 0, none⟩), .string (bA cl)] w (RetP B b len M k d (.tuple #[]) (expF len cl s2) w)) := Lib.hid fun w h => expect_any cl h
  obtain ⟨s3, hs3⟩ : ∃ q, q = expF len cl s2 := ⟨_, rfl⟩
  rw [← hs3] at HXp ⊢
  have hdw : IntKind.i64.wrap ((d : Int) + 1 - 1) = (d : Int) := by rw [IntWalk.i64_in _ (by omega)]; omega
  obtain ⟨CL, hCL⟩ : ∃ q, q = bA cl := ⟨_, rfl⟩
  rw [← hCL] at HXp ⊢
  clear hW0 hs1 hr ht hf h hCL hs3 ih
  go_enter Tryz.func131, Tryz.ntmps131
  go_upto_region 1 with fail
  rw [← HW0.out]
  go_upto_region 2 with (go_at_call 140; have HX := HEn.out _ P0.out; (with_reducible refine HX.mono ?_); clear HX; rintro e w1 ⟨rfl, hp, hd3⟩; have P1 := Lib.hid hp; have D1 := Lib.hid (D0.out.trans hd3); have K1 := Lib.hid (hd3.blk K0.out HG.out.1.symm); clear hp hd3)
  go_upto_region 3 with (go_at_call 40; have HX := HPt.out _ P1.out; (with_reducible refine HX.mono ?_); clear HX; rintro e w2 ⟨nL, AL, mL, cL, rfl, hp, hd4, hi1, hi2, hr4⟩; have P2 := Lib.hid hp; have D2 := Lib.hid (D1.out.trans hd4); have K2 := Lib.hid (hd4.blk K1.out HG.out.1.symm); have R2 := Lib.hid hr4; have I1 := Lib.hid hi1; have I2 := Lib.hid hi2; clear hp hd4 hr4 hi1 hi2)
  obtain ⟨W3, hW3⟩ : ∃ W3, W3 = w2.alloc (.cells #[.string y.op, .string y.nm, .int .i64 y.n, .slice AL mL cL, .int .i64 y.a] 52) := ⟨_, rfl⟩
  have E3 : Hid (Below w2.heap.size w2 W3) := Lib.hid (by rw [hW3]; exact (Below.refl _ _).alloc (Nat.le_refl _) _)
  have P3 := Lib.hid (P2.out.below E3.out)
  have D3 := Lib.hid (D2.out.then_ E3.out)
  have K3 := Lib.hid (K2.out.below E3.out K2.out.lt)
  have T3 : Hid (Blk W3 w2.heap.size 52 #[.string y.op, .string y.nm, .int .i64 y.n, .slice AL mL cL, .int .i64 y.a]) := Lib.hid (by rw [hW3]; exact Blk.new w2 _ _)
  have HT : Hid (w.heap.size ≠ w2.heap.size ∧ b ≠ w2.heap.size) := Lib.hid ⟨Nat.ne_of_lt K2.out.lt, Nat.ne_of_lt P2.out.lt⟩
  have X3 : Hid (ExR (fun q => w.heap.size ≤ q ∧ q < W3.heap.size ∧ q ≠ w.heap.size) nL W3 y.l (.slice AL mL cL)) := Lib.hid ((R2.out.below E3.out (fun q hq => hq.2)).wide (fun q hq => ⟨Nat.le_trans D1.out.size hq.1, Nat.lt_of_lt_of_le hq.2 E3.out.size, by have := K1.out.lt; have := hq.1; omega⟩))
  rw [← hW3]
  clear hW3
  obtain ⟨Aq4, cq4, hq4, -⟩ := P3.out.mem
  have b5 := hq4.cell 5
  have bf := hq4.frozen 5
  have bl := hq4.lt
  simp at b5
  have P4 : Hid (Par B b len M k d _ (W3.setCell ⟨b, 5, none⟩ (.int .i64 (d : Int)))) := Lib.hid P3.out.within
  have D4 := Lib.hid (D3.out.setCell (p := ⟨b, 5, none⟩) rfl (.int .i64 (d : Int)))
  have K4 := Lib.hid (K3.out.far (p := ⟨b, 5, none⟩) HG.out.1.symm (.int .i64 (d : Int)))
  have T4 := Lib.hid (T3.out.far (p := ⟨b, 5, none⟩) HT.out.2.symm (.int .i64 (d : Int)))
  have X4 := Lib.hid (X3.out.set5 HG.out.2.2 (.int .i64 (d : Int)))
  clear hq4
  go_upto_region 4 with fail
  obtain ⟨W4, hW4⟩ : ∃ q, q = W3.setCell ⟨b, 5, none⟩ (.int .i64 (d : Int)) := ⟨_, rfl⟩
  rw [← hW4] at P4 D4 K4 T4 X4 ⊢
  clear hW4
  clear b5 bf bl
  go_upto_region 5 with (go_at_call 51; have HX := HXp.out _ P4.out; (with_reducible refine HX.mono ?_); clear HX; rintro e w5 ⟨rfl, hp, hd3⟩; have P5 := Lib.hid hp; have D5 := Lib.hid (D4.out.trans hd3); have K5 := Lib.hid (hd3.blk K4.out HG.out.1.symm); have T5 := Lib.hid (hd3.blk T4.out HT.out.2.symm); have X5 : Hid (ExR (fun q => w.heap.size ≤ q ∧ q < w5.heap.size ∧ q ≠ w.heap.size) nL w5 y.l (.slice AL mL cL)) := Lib.hid ((X4.out.pd hd3 (fun q hq => ⟨hq.2.1, by have := HG.out.2.2; have := hq.1; omega⟩)).wide (fun q hq => ⟨hq.1, Nat.lt_of_lt_of_le hq.2.1 hd3.size, hq.2.2⟩)); clear hp hd3)
  have t0 := T5.out.cell 0
  have t1 := T5.out.cell 1
  have t2 := T5.out.cell 2
  have t3 := T5.out.cell 3
  have t4 := T5.out.cell 4
  simp at t0 t1 t2 t3 t4
  have r0 := K5.out.cell 0
  have r1 := K5.out.cell 1
  have r2 := K5.out.cell 2
  have r3 := K5.out.cell 3
  have r4 := K5.out.cell 4
  have rf0 := K5.out.frozen 0
  have rf1 := K5.out.frozen 1
  have rf2 := K5.out.frozen 2
  have rf3 := K5.out.frozen 3
  have rf4 := K5.out.frozen 4
  have rl := K5.out.lt
  simp at r0 r1 r2 r3 r4
  go_wp2
  have q := ex_box K5.out (.string y.op) (.string y.nm) (.int .i64 y.n) (.slice AL mL cL) (.int .i64 y.a)
  have q0 := q.cell 0
  have q1 := q.cell 1
  have q2 := q.cell 2
  have q3 := q.cell 3
  have q4 := q.cell 4
  simp at q0 q1 q2 q3 q4
  have HZ := fin_ex P5.out D5.out (Nat.le_refl _) HG.out.1 HG.out.2.1 X5.out (.string y.op) (.string y.nm) (.int .i64 y.n) (.slice AL mL cL) (.int .i64 y.a)
  refine bodyPost_ret (v := exV y.op y.nm y.n (.slice AL mL cL) y.a) (by simp [results, Tryz.results131, go_sem, q0, q1, q2, q3, q4]) rfl ⟨_, _, _, _, rfl, HZ.1, HZ.2.1, I1.out, I2.out, HZ.2.2⟩
set_option maxHeartbeats 6400000 in
set_option maxRecDepth 100000 in
theorem named_any {f : Nat} (ih : PXs B b len M k f) (hd : d ≤ 32) (h : Par B b len M k d s w) (hf : 8 * s.ts.length ≤ f) :
    Calls Tryz.prog 132 #[.pointer (some ⟨b, 0, none⟩)] w (RetX B b len M k d (if isF len [91] (takeF s) then
        (expF len [93] (exF len f (.parts 1) (d + 1) (enterF len d (takeF s))).1, .mk (bA oAt) (bA (nxt len s).text) 0 [(exF len f (.parts 1) (d + 1) (enterF len d (takeF s))).2] (nxt len s).at_)
      else (takeF s, .mk (bA oName) (bA (nxt len s).text) 0 [] (nxt len s).at_)) w) := by
  obtain ⟨W0, hW0⟩ : ∃ W0, W0 = w.alloc (.cells #[.string ⟨#[]⟩, .string ⟨#[]⟩, .int .i64 0, .slice none 0 0, .int .i64 0] 52) := ⟨_, rfl⟩
  have B0 : Hid (Below w.heap.size w W0) := Lib.hid (by rw [hW0]; exact (Below.refl _ _).alloc (Nat.le_refl _) _)
  have K0 : Hid (Blk W0 w.heap.size 52 #[.string ⟨#[]⟩, .string ⟨#[]⟩, .int .i64 0, .slice none 0 0, .int .i64 0]) := Lib.hid (by rw [hW0]; exact Blk.new w _ _)
  have P0 := Lib.hid (h.below B0.out)
  have D0 := Lib.hid (Pd.of_below B0.out b)
  have HW0 := Lib.hid hW0
  have HG : Hid (b ≠ w.heap.size ∧ B ≤ w.heap.size ∧ b < w.heap.size) := Lib.hid ⟨Nat.ne_of_lt h.lt, Nat.le_trans h.lo (Nat.le_of_lt h.lt), h.lt⟩
  have HTk := Lib.hid (take_any P0.out)
  unfold tkV at HTk
  obtain ⟨an, han⟩ : ∃ q, q = (nxt len s).at_ := ⟨_, rfl⟩
  have HAn : Hid (In64 (an : Int)) := Lib.hid (in64_small (by rw [han]; have := (nxt_b (len := len) h.hl h.tb).1; omega))
  obtain ⟨tx, htx⟩ : ∃ q, q = bA (nxt len s).text := ⟨_, rfl⟩
  rw [← han, ← htx] at HTk ⊢
  obtain ⟨s1, hs1⟩ : ∃ q, q = takeF s := ⟨_, rfl⟩
  have HLn : Hid (8 * s1.ts.length ≤ f) := Lib.hid (by rw [hs1, take_len]; omega)
  rw [← hs1] at HTk ⊢
  obtain ⟨bi, hbi⟩ : ∃ q, q = isF len [91] s1 := ⟨_, rfl⟩
  have HIs : Hid (∀ w, Par B b len M k d s1 w → Calls Tryz.prog 49 #[.pointer (some ⟨b, 0, none⟩), .string ⟨#[91]⟩] w fun e w' => e = .returned (.bool bi) ∧ Below w.heap.size w w') := Lib.hid fun w h => by rw [hbi]; exact is_any [91] h
  have HTx : Hid (bi = true → (nxt len s1).text ≠ []) := Lib.hid (fun e => by rw [hbi] at e; unfold isF at e; intro q; rw [q] at e; cases e)
  rw [← hbi]
  obtain ⟨r, hr⟩ : ∃ q, q = (expF len [93] (exF len f (.parts 1) (d + 1) (enterF len d s1)).1, (exF len f (.parts 1) (d + 1) (enterF len d s1)).2) := ⟨_, rfl⟩
  have HOp : Hid (∀ w, Par B b len M k d s1 w → bi = true → Calls Tryz.prog 131 #[.pointer (some ⟨b, 0, none⟩), .string ⟨#[93]⟩] w (RetX B b len M k d r w)) := Lib.hid fun w h e => by rw [hr]; exact opened_any ih [93] hd h (HTx.out e) HLn.out
  have HR : Hid (r = (expF len [93] (exF len f (.parts 1) (d + 1) (enterF len d s1)).1, (exF len f (.parts 1) (d + 1) (enterF len d s1)).2)) := Lib.hid hr
  rw [show (expF len [93] (exF len f (.parts 1) (d + 1) (enterF len d s1)).1, Ex.mk (bA oAt) tx 0 [(exF len f (.parts 1) (d + 1) (enterF len d s1)).2] (an : Int)) = (r.1, Ex.mk (bA oAt) tx 0 [r.2] (an : Int)) by rw [hr]]
  clear hW0 han htx hs1 hbi hr h ih hf HTx HLn
  obtain ⟨s2, y⟩ := r
  clear HR
  go_enter Tryz.func132, Tryz.ntmps132
  go_upto_region 1 with fail
  rw [← HW0.out]
  go_upto_region 2 with (go_at_call 101; have HX := HTk.out; (with_reducible refine HX.mono ?_); clear HX; rintro e w1 ⟨rfl, hp, hd1⟩; have P1 := Lib.hid hp; have D1 := Lib.hid (D0.out.trans hd1); have K1 := Lib.hid (hd1.blk K0.out HG.out.1.symm); clear hp hd1)
  go_upto_region 3 with fail
  obtain ⟨Wa, hWa⟩ : ∃ q, q = w1.alloc (.cells #[.int .i64 ((nxt len s).kind : Int), .string tx, .int .i64 ((nxt len s).n : Int), .int .i64 (an : Int)] 49) := ⟨_, rfl⟩
  have Ea : Hid (Below w1.heap.size w1 Wa) := Lib.hid (by rw [hWa]; exact (Below.refl _ _).alloc (Nat.le_refl _) _)
  have Za : Hid (Wa.heap.size = w1.heap.size + 1) := Lib.hid (by rw [hWa, World.size_alloc])
  rw [← hWa]
  clear hWa
  obtain ⟨W2, hW2⟩ : ∃ q, q = Wa.alloc (.cells #[.string ⟨#[110, 97, 109, 101]⟩, .string tx, .int .i64 0, .slice none 0 0, .int .i64 (an : Int)] 52) := ⟨_, rfl⟩
  have E2 : Hid (Below Wa.heap.size Wa W2) := Lib.hid (by rw [hW2]; exact (Below.refl _ _).alloc (Nat.le_refl _) _)
  have B2 := Lib.hid (thru Ea.out E2.out)
  have P2 := Lib.hid (P1.out.below B2.out)
  have D2 := Lib.hid (D1.out.then_ B2.out)
  have K2 := Lib.hid (K1.out.below B2.out K1.out.lt)
  have T2 : Hid (Blk W2 (w1.heap.size + 1) 52 #[.string ⟨#[110, 97, 109, 101]⟩, .string tx, .int .i64 0, .slice none 0 0, .int .i64 (an : Int)]) := Lib.hid (by rw [hW2, ← Za.out]; exact Blk.new Wa _ _)
  have HT : Hid (w.heap.size ≠ w1.heap.size + 1 ∧ b ≠ w1.heap.size + 1 ∧ w.heap.size ≤ w1.heap.size + 1 ∧ B ≤ w1.heap.size + 1) := Lib.hid (by have := K1.out.lt; have := P1.out.lt; have := HG.out.2.1; exact ⟨by omega, by omega, by omega, by omega⟩)
  rw [← hW2]
  clear hW2 HTk
  cases bi
  · go_upto_region 5 with (go_at_call 49; have HX := HIs.out _ P2.out; (with_reducible refine HX.mono ?_); clear HX; rintro e w3 ⟨rfl, hb⟩; have P3 := Lib.hid (P2.out.below hb); have D3 := Lib.hid (D2.out.then_ hb); have K3 := Lib.hid (K2.out.below hb K2.out.lt); have T3 := Lib.hid (T2.out.below hb T2.out.lt); clear hb)
    have X3 : Hid (ExR (fun q => w.heap.size ≤ q ∧ q < w3.heap.size ∧ q ≠ w.heap.size) (0 + 1) w3 [] (.slice none 0 0)) := Lib.hid exr_nil
    have t0 := T3.out.cell 0
    have t1 := T3.out.cell 1
    have t2 := T3.out.cell 2
    have t3 := T3.out.cell 3
    have t4 := T3.out.cell 4
    simp at t0 t1 t2 t3 t4
    have r0 := K3.out.cell 0
    have r1 := K3.out.cell 1
    have r2 := K3.out.cell 2
    have r3 := K3.out.cell 3
    have r4 := K3.out.cell 4
    have rf0 := K3.out.frozen 0
    have rf1 := K3.out.frozen 1
    have rf2 := K3.out.frozen 2
    have rf3 := K3.out.frozen 3
    have rf4 := K3.out.frozen 4
    have rl := K3.out.lt
    simp at r0 r1 r2 r3 r4
    go_wp2
    have q := ex_box K3.out (.string ⟨#[110, 97, 109, 101]⟩) (.string tx) (.int .i64 0) (.slice none 0 0) (.int .i64 (an : Int))
    have q0 := q.cell 0
    have q1 := q.cell 1
    have q2 := q.cell 2
    have q3 := q.cell 3
    have q4 := q.cell 4
    simp at q0 q1 q2 q3 q4
    have HZ := fin_ex P3.out D3.out (Nat.le_refl _) HG.out.1 HG.out.2.1 X3.out (.string ⟨#[110, 97, 109, 101]⟩) (.string tx) (.int .i64 0) (.slice none 0 0) (.int .i64 (an : Int))
    refine bodyPost_ret (v := exV ⟨#[110, 97, 109, 101]⟩ tx 0 (.slice none 0 0) (an : Int)) (by simp [results, Tryz.results132, go_sem, q0, q1, q2, q3, q4]) rfl ⟨_, _, _, _, rfl, HZ.1, HZ.2.1, in64_zero, HAn.out, HZ.2.2⟩
  · have HO2 := Lib.hid (fun w h => HOp.out w h rfl)
    clear HOp
    go_upto_region 4 with (go_at_call 49; have HX := HIs.out _ P2.out; (with_reducible refine HX.mono ?_); clear HX; rintro e w3 ⟨rfl, hb⟩; have P3 := Lib.hid (P2.out.below hb); have D3 := Lib.hid (D2.out.then_ hb); have K3 := Lib.hid (K2.out.below hb K2.out.lt); have T3 := Lib.hid (T2.out.below hb T2.out.lt); have S3 := Lib.hid (Nat.lt_of_lt_of_le T2.out.lt hb.size); clear hb)
    go_upto_region 5 with (go_at_call 131; have HX := HO2.out _ P3.out; (with_reducible refine HX.mono ?_); clear HX; rintro e w4 ⟨nL, AL, mL, cL, rfl, hp, hd4, hi1, hi2, hr4⟩; have P4 := Lib.hid hp; have D4 := Lib.hid (D3.out.trans hd4); have K4 := Lib.hid (hd4.blk K3.out HG.out.1.symm); have T4 := Lib.hid (hd4.blk T3.out HT.out.2.1.symm); have R4 := Lib.hid hr4; have I1 := Lib.hid hi1; have I2 := Lib.hid hi2; have S4 := Lib.hid hd4.size; have t0 := T4.out.cell 0; have t1 := T4.out.cell 1; have t2 := T4.out.cell 2; have t3 := T4.out.cell 3; have tf0 := T4.out.frozen 0; have tf1 := T4.out.frozen 1; have tf2 := T4.out.frozen 2; have tf3 := T4.out.frozen 3; have tl := T4.out.lt; simp at t0 t1 t2 t3; clear hp hd4 hr4 hi1 hi2)
    obtain ⟨w5, hw5⟩ : ∃ q, q = (w4.setCell ⟨w1.heap.size + 1, 0, none⟩ (.string ⟨#[97, 116]⟩)).setCell ⟨w1.heap.size + 1, 3, none⟩ (.slice (some ⟨w4.heap.size, 0, none⟩) 1 1) := ⟨_, rfl⟩
    have Z5 : Hid (w5.heap.size = w4.heap.size) := Lib.hid (by rw [hw5]; simp [World.setCell])
    have P5 : Hid (Par B b len M k d s2 w5) := Lib.hid (by rw [hw5]; exact (P4.out.far HT.out.2.1 HT.out.2.2.2 _).far HT.out.2.1 HT.out.2.2.2 _)
    have D5 : Hid (Pd b w w5) := Lib.hid (by rw [hw5]; exact (D4.out.fresh (p := ⟨w1.heap.size + 1, 0, none⟩) HT.out.2.2.1 _).fresh (p := ⟨w1.heap.size + 1, 3, none⟩) HT.out.2.2.1 _)
    have K5 : Hid (Blk w5 w.heap.size 52 #[.string ⟨#[]⟩, .string ⟨#[]⟩, .int .i64 0, .slice none 0 0, .int .i64 0]) := Lib.hid (by rw [hw5]; exact (K4.out.far HT.out.1 _).far HT.out.1 _)
    have T5 : Hid (Blk w5 (w1.heap.size + 1) 52 #[.string ⟨#[97, 116]⟩, .string tx, .int .i64 0, .slice (some ⟨w4.heap.size, 0, none⟩) 1 1, .int .i64 (an : Int)]) := Lib.hid (by rw [hw5]; exact (T4.out.set_ 0 _).set_ 3 _)
    have R5 : Hid (ExR (fun q => w3.heap.size ≤ q ∧ q < w4.heap.size) nL w5 y.l (.slice AL mL cL)) := Lib.hid (by rw [hw5]; exact R4.out.kept fun q hq => (Below.heap_setCell _ _ _ _ (show q ≠ w1.heap.size + 1 by have := S3.out; have := hq.1; omega)).trans (Below.heap_setCell _ _ _ _ (show q ≠ w1.heap.size + 1 by have := S3.out; have := hq.1; omega)))
    rw [← hw5]
    clear hw5
    clear t0 t1 t2 t3 tf0 tf1 tf2 tf3 tl
    obtain ⟨W6, hW6⟩ : ∃ q, q = w5.alloc (.cells #[.string y.op, .string y.nm, .int .i64 y.n, .slice AL mL cL, .int .i64 y.a] 52) := ⟨_, rfl⟩
    have E6 : Hid (Below w5.heap.size w5 W6) := Lib.hid (by rw [hW6]; exact (Below.refl _ _).alloc (Nat.le_refl _) _)
    have P6 := Lib.hid (P5.out.below E6.out)
    have D6 := Lib.hid (D5.out.then_ E6.out)
    have K6 := Lib.hid (K5.out.below E6.out K5.out.lt)
    have T6 := Lib.hid (T5.out.below E6.out T5.out.lt)
    have N6 : Hid (Blk W6 w4.heap.size 52 #[.string y.op, .string y.nm, .int .i64 y.n, .slice AL mL cL, .int .i64 y.a]) := Lib.hid (by rw [hW6, ← Z5.out]; exact Blk.new w5 _ _)
    have X6 : Hid (ExR (fun q => w.heap.size ≤ q ∧ q < W6.heap.size ∧ q ≠ w.heap.size) (nL + 1) W6 [y] (.slice (some ⟨w4.heap.size, 0, none⟩) 1 1)) := Lib.hid (exr_one N6.out ⟨by have := S3.out; have := S4.out; have := K1.out.lt; omega, N6.out.lt, by have := S3.out; have := S4.out; have := K1.out.lt; omega⟩ I1.out I2.out ((R5.out.below E6.out (fun q hq => by rw [Z5.out]; exact hq.2)).wide (fun q hq => ⟨by have := S3.out; have := K1.out.lt; have := hq.1; omega, Nat.lt_of_lt_of_le hq.2 (by rw [← Z5.out]; exact E6.out.size), by have := S3.out; have := K1.out.lt; have := hq.1; omega⟩)))
    rw [← hW6]
    clear hW6
    have t0 := T6.out.cell 0
    have t1 := T6.out.cell 1
    have t2 := T6.out.cell 2
    have t3 := T6.out.cell 3
    have t4 := T6.out.cell 4
    simp at t0 t1 t2 t3 t4
    have r0 := K6.out.cell 0
    have r1 := K6.out.cell 1
    have r2 := K6.out.cell 2
    have r3 := K6.out.cell 3
    have r4 := K6.out.cell 4
    have rf0 := K6.out.frozen 0
    have rf1 := K6.out.frozen 1
    have rf2 := K6.out.frozen 2
    have rf3 := K6.out.frozen 3
    have rf4 := K6.out.frozen 4
    have rl := K6.out.lt
    simp at r0 r1 r2 r3 r4
    go_wp2
    have q := ex_box K6.out (.string ⟨#[97, 116]⟩) (.string tx) (.int .i64 0) (.slice (some ⟨w4.heap.size, 0, none⟩) 1 1) (.int .i64 (an : Int))
    have q0 := q.cell 0
    have q1 := q.cell 1
    have q2 := q.cell 2
    have q3 := q.cell 3
    have q4 := q.cell 4
    simp at q0 q1 q2 q3 q4
    have HZ := fin_ex P6.out D6.out (Nat.le_refl _) HG.out.1 HG.out.2.1 X6.out (.string ⟨#[97, 116]⟩) (.string tx) (.int .i64 0) (.slice (some ⟨w4.heap.size, 0, none⟩) 1 1) (.int .i64 (an : Int))
    refine bodyPost_ret (v := exV ⟨#[97, 116]⟩ tx 0 (.slice (some ⟨w4.heap.size, 0, none⟩) 1 1) (an : Int)) (by simp [results, Tryz.results132, go_sem, q0, q1, q2, q3, q4]) rfl ⟨_, _, _, _, rfl, HZ.1, HZ.2.1, in64_zero, HAn.out, HZ.2.2⟩
end
end Go.Proofs.YteaongdlbleehaaGreatDoor

/- The parse layer: a part of an expression. -/
namespace Go.Proofs.YteaongdlbleehaaGreatDoor
open Go.RowKit
attribute [local go_sem] field_at field_tx field_nn
section
variable {B b len k d n : Nat} {M : Value} {s : PS} {w : World}
set_option maxHeartbeats 6400000 in
set_option maxRecDepth 100000 in
theorem ppart_step {f : Nat} (ihp : PXp B b len M k f) (ihs : PXs B b len M k f) : PXp B b len M k (f + 1) := by
  intro d s w h hdk hf
  obtain ⟨W0, hW0⟩ : ∃ W0, W0 = w.alloc (.cells #[.string ⟨#[]⟩, .string ⟨#[]⟩, .int .i64 0, .slice none 0 0, .int .i64 0] 52) := ⟨_, rfl⟩
  have B0 : Hid (Below w.heap.size w W0) := Lib.hid (by rw [hW0]; exact (Below.refl _ _).alloc (Nat.le_refl _) _)
  have K0 : Hid (Blk W0 w.heap.size 52 #[.string ⟨#[]⟩, .string ⟨#[]⟩, .int .i64 0, .slice none 0 0, .int .i64 0]) := Lib.hid (by rw [hW0]; exact Blk.new w _ _)
  have P0 := Lib.hid (h.below B0.out)
  have D0 := Lib.hid (Pd.of_below B0.out b)
  have HW0 := Lib.hid hW0
  have HG : Hid (b ≠ w.heap.size ∧ B ≤ w.heap.size ∧ b < w.heap.size) := Lib.hid ⟨Nat.ne_of_lt h.lt, Nat.le_trans h.lo (Nat.le_of_lt h.lt), h.lt⟩
  have HN := Lib.hid (next_any P0.out)
  obtain ⟨t, ht⟩ : ∃ t, t = nxt len s := ⟨_, rfl⟩
  have hb3 := nxt_b (len := len) h.hl h.tb
  rw [← ht] at HN hb3
  have HAt : Hid (In64 (t.at_ : Int)) := Lib.hid (in64_small (by omega))
  have HNn : Hid (In64 (t.n : Int)) := Lib.hid (in64_small hb3.2.1)
  have HT0 := Lib.hid ht
  have HDk := Lib.hid hdk
  have HF := Lib.hid hf
  have HIs : Hid (∀ w, Calls Tryz.prog 112 #[tkV t] w fun e w' => e = .returned (.bool (isNm t)) ∧ Below w.heap.size w w') := Lib.hid (isName_any t)
  have HTk : Hid (∀ w, Par B b len M k d s w → Calls Tryz.prog 101 #[.pointer (some ⟨b, 0, none⟩)] w (RetP B b len M k d (tkV t) (takeF s) w)) := Lib.hid fun w h => by rw [ht]; exact take_any h
  unfold tkV at HN HIs HTk
  obtain ⟨tx, htx⟩ : ∃ q, q = bA t.text := ⟨_, rfl⟩
  have HTx : Hid (tx.toList = t.text) := Lib.hid (by rw [htx, bA_list])
  have HTb : Hid (bA t.text = tx) := Lib.hid htx.symm
  rw [← htx] at HN HIs HTk
  clear hW0 ht htx hf h hdk hb3
  go_enter Tryz.func99, Tryz.ntmps99
  go_upto_region 1 with fail
  rw [← HW0.out]
  go_upto_region 2 with (go_at_call 86; have HX := HN.out; (with_reducible refine HX.mono ?_); clear HX; rintro e w1 ⟨rfl, hb⟩; have B1 := Lib.hid (thru B0.out hb); have P1 := Lib.hid (P0.out.below hb); have K1 := Lib.hid (K0.out.below hb K0.out.lt); clear hb)
  obtain ⟨W2, hW2⟩ : ∃ W2, W2 = w1.alloc (.cells #[.int .i64 (t.kind : Int), .string tx, .int .i64 (t.n : Int), .int .i64 (t.at_ : Int)] 49) := ⟨_, rfl⟩
  have E2 : Hid (Below w1.heap.size w1 W2) := Lib.hid (by rw [hW2]; exact (Below.refl _ _).alloc (Nat.le_refl _) _)
  have D2 := Lib.hid (Pd.of_below (thru B1.out E2.out) b)
  have P2 := Lib.hid (P1.out.below E2.out)
  have K2 := Lib.hid (K1.out.below E2.out K1.out.lt)
  have T2 : Hid (Blk W2 w1.heap.size 49 #[.int .i64 (t.kind : Int), .string tx, .int .i64 (t.n : Int), .int .i64 (t.at_ : Int)]) := Lib.hid (by rw [hW2]; exact Blk.new w1 _ _)
  have HT : Hid (w.heap.size ≠ w1.heap.size ∧ b ≠ w1.heap.size) := Lib.hid ⟨Nat.ne_of_lt K1.out.lt, Nat.ne_of_lt P1.out.lt⟩
  rw [← hW2]
  clear hW2 HN HW0
  have t0 := T2.out.cell 0
  have t1 := T2.out.cell 1
  have t2 := T2.out.cell 2
  have t3 := T2.out.cell 3
  simp at t0 t1 t2 t3
  cases he : (tx.toList == [45])
  · have het1 : (t.text == [45]) = false := by rw [← HTx.out]; exact he
    have he1 := he
    clear he
    cases he : (tx.toList == [33])
    · have het2 : (t.text == [33]) = false := by rw [← HTx.out]; exact he
      have he2 := he
      clear he
      cases he : (tx.toList == [40])
      · have het3 : (t.text == [40]) = false := by rw [← HTx.out]; exact he
        have he3 := he
        clear he
        cases he : (tx.toList == [116, 114, 117, 101])
        · have hea : (t.text == oTrue) = false := by rw [← HTx.out]; exact he
          have he4 := he
          clear he
          cases he : (tx.toList == [102, 97, 108, 115, 101])
          · have het4 : ((t.text == oTrue) || (t.text == oFalse)) = false := by rw [hea, show (t.text == oFalse) = false from by rw [← HTx.out]; exact he]; rfl
            have he5 := he
            clear he hea
            by_cases hk : t.kind = 1
            · have HE : Hid (exF len (f + 1) .part d s = (takeF s, .mk ⟨#[110, 117, 109]⟩ ⟨#[]⟩ (t.n : Int) [] (t.at_ : Int))) := Lib.hid (by
                simp only [exF]
                rw [← HT0.out, het1, het2, het3, het4, hk]; rfl)
              have gk : ((t.kind : Int) == 1) = true := by rw [hk]; rfl
              clear hk
              go_wp2_with (go_at_call 101; have HX := HTk.out _ P2.out; (with_reducible refine HX.mono ?_); clear HX; rintro e w3 ⟨rfl, hp, hd3⟩; have P3 := Lib.hid hp; have D3 := Lib.hid (D2.out.trans hd3); have K3 := Lib.hid (hd3.blk K2.out HG.out.1.symm); have T3 := Lib.hid (hd3.blk T2.out HT.out.2.symm); have r0 := K3.out.cell 0; have r1 := K3.out.cell 1; have r2 := K3.out.cell 2; have r3 := K3.out.cell 3; have r4 := K3.out.cell 4; have rf0 := K3.out.frozen 0; have rf1 := K3.out.frozen 1; have rf2 := K3.out.frozen 2; have rf3 := K3.out.frozen 3; have rf4 := K3.out.frozen 4; have rl := K3.out.lt; simp at r0 r1 r2 r3 r4; have u0 := T3.out.cell 0; have u1 := T3.out.cell 1; have u2 := T3.out.cell 2; have u3 := T3.out.cell 3; simp at u0 u1 u2 u3; clear hp hd3)
              have X3 : Hid (ExR (fun q => w.heap.size ≤ q ∧ q < w3.heap.size ∧ q ≠ w.heap.size) (0 + 1) w3 [] (.slice none 0 0)) := Lib.hid exr_nil
              have q := ex_box K3.out (.string ⟨#[110, 117, 109]⟩) (.string ⟨#[]⟩) (.int .i64 (t.n : Int)) (.slice none 0 0) (.int .i64 (t.at_ : Int))
              have q0 := q.cell 0
              have q1 := q.cell 1
              have q2 := q.cell 2
              have q3 := q.cell 3
              have q4 := q.cell 4
              simp at q0 q1 q2 q3 q4
              have HZ := fin_ex P3.out D3.out (Nat.le_refl _) HG.out.1 HG.out.2.1 X3.out (.string ⟨#[110, 117, 109]⟩) (.string ⟨#[]⟩) (.int .i64 (t.n : Int)) (.slice none 0 0) (.int .i64 (t.at_ : Int))
              rw [HE.out]
              refine bodyPost_ret (v := exV ⟨#[110, 117, 109]⟩ ⟨#[]⟩ (t.n : Int) (.slice none 0 0) (t.at_ : Int)) (by simp [results, Tryz.results99, go_sem, q0, q1, q2, q3, q4]) rfl ⟨_, _, _, _, rfl, HZ.1, HZ.2.1, HNn.out, HAt.out, HZ.2.2⟩
            · cases hi : isNm t
              · have HE : Hid (exF len (f + 1) .part d s = (failF len 130 s, ex0)) := Lib.hid (by
                  simp only [exF]
                  rw [← HT0.out, het1, het2, het3, het4, if_neg hk, hi]; rfl)
                have gk : ((t.kind : Int) == 1) = false := by simp; omega
                rw [hi] at HIs
                clear hk hi
                go_wp2_with (first
                  | (go_at_call 112; have HX := HIs.out W2; (with_reducible refine HX.mono ?_); clear HX; rintro e w9 ⟨rfl, hb⟩; have P9 := Lib.hid (P2.out.below hb); have D9 := Lib.hid (D2.out.then_ hb); have K9 := Lib.hid (K2.out.below hb K2.out.lt); clear hb)
                  | (go_at_call 48; have HX := fail_p P9.out; (with_reducible refine HX.mono ?_); clear HX; rintro e w3 ⟨rfl, hp, hd3⟩; have P3 := Lib.hid hp; have D3 := Lib.hid (D9.out.trans hd3); have K3 := Lib.hid (hd3.blk K9.out HG.out.1.symm); have r0 := K3.out.cell 0; have r1 := K3.out.cell 1; have r2 := K3.out.cell 2; have r3 := K3.out.cell 3; have r4 := K3.out.cell 4; have rf0 := K3.out.frozen 0; have rf1 := K3.out.frozen 1; have rf2 := K3.out.frozen 2; have rf3 := K3.out.frozen 3; have rf4 := K3.out.frozen 4; have rl := K3.out.lt; simp at r0 r1 r2 r3 r4; clear hp hd3))
                have X3 : Hid (ExR (fun q => w.heap.size ≤ q ∧ q < w3.heap.size ∧ q ≠ w.heap.size) (0 + 1) w3 [] (.slice none 0 0)) := Lib.hid exr_nil
                have q := ex_box K3.out (.string ⟨#[]⟩) (.string ⟨#[]⟩) (.int .i64 0) (.slice none 0 0) (.int .i64 0)
                have q0 := q.cell 0
                have q1 := q.cell 1
                have q2 := q.cell 2
                have q3 := q.cell 3
                have q4 := q.cell 4
                simp at q0 q1 q2 q3 q4
                have HZ := fin_ex P3.out D3.out (Nat.le_refl _) HG.out.1 HG.out.2.1 X3.out (.string ⟨#[]⟩) (.string ⟨#[]⟩) (.int .i64 0) (.slice none 0 0) (.int .i64 0)
                rw [HE.out]
                refine bodyPost_ret (v := exV ⟨#[]⟩ ⟨#[]⟩ 0 (.slice none 0 0) 0) (by simp [results, Tryz.results99, go_sem, q0, q1, q2, q3, q4]) rfl ⟨_, _, _, _, rfl, HZ.1, HZ.2.1, in64_zero, in64_zero, HZ.2.2⟩
              · have hne : s.ts ≠ [] := by intro e; have q := nxt_nil (len := len) e; rw [← HT0.out] at q; rw [q] at hi; cases hi
                obtain ⟨r, hr⟩ : ∃ q, q = exF len (f + 1) .part d s := ⟨_, rfl⟩
                have HC : Hid (∀ w, Par B b len M k d s w → Calls Tryz.prog 132 #[.pointer (some ⟨b, 0, none⟩)] w (RetX B b len M k d r w)) := Lib.hid fun w h => by
                  rw [hr]
                  simp only [exF]
                  rw [← HT0.out, het1, het2, het3, het4, if_neg hk, hi]
                  have := named_any ihs (HDk.out.2 hne) h (by have := HF.out; omega)
                  rw [← HT0.out] at this
                  exact this
                have HRr := Lib.hid hr.symm
                have gk : ((t.kind : Int) == 1) = false := by simp; omega
                rw [hi] at HIs
                clear hr hne hk hi
                go_wp2_with (first
                  | (go_at_call 112; have HX := HIs.out W2; (with_reducible refine HX.mono ?_); clear HX; rintro e w9 ⟨rfl, hb⟩; have P9 := Lib.hid (P2.out.below hb); have D9 := Lib.hid (D2.out.then_ hb); have K9 := Lib.hid (K2.out.below hb K2.out.lt); clear hb)
                  | (go_at_call 132; have HX := HC.out _ P9.out; (with_reducible refine HX.mono ?_); clear HX; rintro e w3 ⟨nL, AL, mL, cL, rfl, hp, hd3, hi1, hi2, hr3⟩; have P3 := Lib.hid hp; have D3 := Lib.hid (D9.out.trans hd3); have K3 := Lib.hid (hd3.blk K9.out HG.out.1.symm); have X3 : Hid (ExR (fun q => w.heap.size ≤ q ∧ q < w3.heap.size ∧ q ≠ w.heap.size) nL w3 r.2.l (.slice AL mL cL)) := Lib.hid (hr3.wide (fun q hq => ⟨Nat.le_trans D9.out.size hq.1, hq.2, by have := K9.out.lt; have := hq.1; omega⟩)); have I1 := Lib.hid hi1; have I2 := Lib.hid hi2; have r0 := K3.out.cell 0; have r1 := K3.out.cell 1; have r2 := K3.out.cell 2; have r3 := K3.out.cell 3; have r4 := K3.out.cell 4; have rf0 := K3.out.frozen 0; have rf1 := K3.out.frozen 1; have rf2 := K3.out.frozen 2; have rf3 := K3.out.frozen 3; have rf4 := K3.out.frozen 4; have rl := K3.out.lt; simp at r0 r1 r2 r3 r4; clear hp hd3 hr3 hi1 hi2))
                have q := ex_box K3.out (.string r.2.op) (.string r.2.nm) (.int .i64 r.2.n) (.slice AL mL cL) (.int .i64 r.2.a)
                have q0 := q.cell 0
                have q1 := q.cell 1
                have q2 := q.cell 2
                have q3 := q.cell 3
                have q4 := q.cell 4
                simp at q0 q1 q2 q3 q4
                have HZ := fin_ex P3.out D3.out (Nat.le_refl _) HG.out.1 HG.out.2.1 X3.out (.string r.2.op) (.string r.2.nm) (.int .i64 r.2.n) (.slice AL mL cL) (.int .i64 r.2.a)
                rw [HRr.out]
                refine bodyPost_ret (v := exV r.2.op r.2.nm r.2.n (.slice AL mL cL) r.2.a) (by simp [results, Tryz.results99, go_sem, q0, q1, q2, q3, q4]) rfl ⟨_, _, _, _, rfl, HZ.1, HZ.2.1, I1.out, I2.out, HZ.2.2⟩
          · have het : ((t.text == oTrue) || (t.text == oFalse)) = true := by rw [show (t.text == oFalse) = true from by rw [← HTx.out]; exact he]; exact Bool.or_true _
            have HE : Hid (exF len (f + 1) .part d s = (takeF s, .mk tx ⟨#[]⟩ 0 [] (t.at_ : Int))) := Lib.hid (by
              simp only [exF]
              rw [← HT0.out, het1, het2, het3, het, HTb.out]; rfl)
            clear het
            go_wp2_with (go_at_call 101; have HX := HTk.out _ P2.out; (with_reducible refine HX.mono ?_); clear HX; rintro e w3 ⟨rfl, hp, hd3⟩; have P3 := Lib.hid hp; have D3 := Lib.hid (D2.out.trans hd3); have K3 := Lib.hid (hd3.blk K2.out HG.out.1.symm); have T3 := Lib.hid (hd3.blk T2.out HT.out.2.symm); have r0 := K3.out.cell 0; have r1 := K3.out.cell 1; have r2 := K3.out.cell 2; have r3 := K3.out.cell 3; have r4 := K3.out.cell 4; have rf0 := K3.out.frozen 0; have rf1 := K3.out.frozen 1; have rf2 := K3.out.frozen 2; have rf3 := K3.out.frozen 3; have rf4 := K3.out.frozen 4; have rl := K3.out.lt; simp at r0 r1 r2 r3 r4; have u0 := T3.out.cell 0; have u1 := T3.out.cell 1; have u2 := T3.out.cell 2; have u3 := T3.out.cell 3; simp at u0 u1 u2 u3; clear hp hd3)
            have X3 : Hid (ExR (fun q => w.heap.size ≤ q ∧ q < w3.heap.size ∧ q ≠ w.heap.size) (0 + 1) w3 [] (.slice none 0 0)) := Lib.hid exr_nil
            have q := ex_box K3.out (.string tx) (.string ⟨#[]⟩) (.int .i64 0) (.slice none 0 0) (.int .i64 (t.at_ : Int))
            have q0 := q.cell 0
            have q1 := q.cell 1
            have q2 := q.cell 2
            have q3 := q.cell 3
            have q4 := q.cell 4
            simp at q0 q1 q2 q3 q4
            have HZ := fin_ex P3.out D3.out (Nat.le_refl _) HG.out.1 HG.out.2.1 X3.out (.string tx) (.string ⟨#[]⟩) (.int .i64 0) (.slice none 0 0) (.int .i64 (t.at_ : Int))
            rw [HE.out]
            refine bodyPost_ret (v := exV tx ⟨#[]⟩ 0 (.slice none 0 0) (t.at_ : Int)) (by simp [results, Tryz.results99, go_sem, q0, q1, q2, q3, q4]) rfl ⟨_, _, _, _, rfl, HZ.1, HZ.2.1, in64_zero, HAt.out, HZ.2.2⟩
        · have het : ((t.text == oTrue) || (t.text == oFalse)) = true := by rw [show (t.text == oTrue) = true from by rw [← HTx.out]; exact he]; rfl
          have HE : Hid (exF len (f + 1) .part d s = (takeF s, .mk tx ⟨#[]⟩ 0 [] (t.at_ : Int))) := Lib.hid (by
            simp only [exF]
            rw [← HT0.out, het1, het2, het3, het, HTb.out]; rfl)
          clear het
          go_wp2_with (go_at_call 101; have HX := HTk.out _ P2.out; (with_reducible refine HX.mono ?_); clear HX; rintro e w3 ⟨rfl, hp, hd3⟩; have P3 := Lib.hid hp; have D3 := Lib.hid (D2.out.trans hd3); have K3 := Lib.hid (hd3.blk K2.out HG.out.1.symm); have T3 := Lib.hid (hd3.blk T2.out HT.out.2.symm); have r0 := K3.out.cell 0; have r1 := K3.out.cell 1; have r2 := K3.out.cell 2; have r3 := K3.out.cell 3; have r4 := K3.out.cell 4; have rf0 := K3.out.frozen 0; have rf1 := K3.out.frozen 1; have rf2 := K3.out.frozen 2; have rf3 := K3.out.frozen 3; have rf4 := K3.out.frozen 4; have rl := K3.out.lt; simp at r0 r1 r2 r3 r4; have u0 := T3.out.cell 0; have u1 := T3.out.cell 1; have u2 := T3.out.cell 2; have u3 := T3.out.cell 3; simp at u0 u1 u2 u3; clear hp hd3)
          have X3 : Hid (ExR (fun q => w.heap.size ≤ q ∧ q < w3.heap.size ∧ q ≠ w.heap.size) (0 + 1) w3 [] (.slice none 0 0)) := Lib.hid exr_nil
          have q := ex_box K3.out (.string tx) (.string ⟨#[]⟩) (.int .i64 0) (.slice none 0 0) (.int .i64 (t.at_ : Int))
          have q0 := q.cell 0
          have q1 := q.cell 1
          have q2 := q.cell 2
          have q3 := q.cell 3
          have q4 := q.cell 4
          simp at q0 q1 q2 q3 q4
          have HZ := fin_ex P3.out D3.out (Nat.le_refl _) HG.out.1 HG.out.2.1 X3.out (.string tx) (.string ⟨#[]⟩) (.int .i64 0) (.slice none 0 0) (.int .i64 (t.at_ : Int))
          rw [HE.out]
          refine bodyPost_ret (v := exV tx ⟨#[]⟩ 0 (.slice none 0 0) (t.at_ : Int)) (by simp [results, Tryz.results99, go_sem, q0, q1, q2, q3, q4]) rfl ⟨_, _, _, _, rfl, HZ.1, HZ.2.1, in64_zero, HAt.out, HZ.2.2⟩
      · have het : (t.text == [40]) = true := by rw [← HTx.out]; exact he
        have hne : (nxt len s).text ≠ [] := by rw [← HT0.out]; intro e; rw [e] at het; cases het
        obtain ⟨r, hr⟩ : ∃ q, q = exF len (f + 1) .part d s := ⟨_, rfl⟩
        have HC : Hid (∀ w, Par B b len M k d s w → Calls Tryz.prog 131 #[.pointer (some ⟨b, 0, none⟩), .string ⟨#[41]⟩] w (RetX B b len M k d r w)) := Lib.hid fun w h => by
          rw [hr]
          simp only [exF]
          rw [← HT0.out, het1, het2, het]
          exact (opened_any ihs [41] (HDk.out.2 (by intro e; rw [nxt_nil e] at hne; exact hne rfl)) h hne (by have := HF.out; omega))
        have HRr := Lib.hid hr.symm
        clear hr hne het
        go_wp2_with (go_at_call 131; have HX := HC.out _ P2.out; (with_reducible refine HX.mono ?_); clear HX; rintro e w3 ⟨nL, AL, mL, cL, rfl, hp, hd3, hi1, hi2, hr3⟩; have P3 := Lib.hid hp; have D3 := Lib.hid (D2.out.trans hd3); have K3 := Lib.hid (hd3.blk K2.out HG.out.1.symm); have X3 : Hid (ExR (fun q => w.heap.size ≤ q ∧ q < w3.heap.size ∧ q ≠ w.heap.size) nL w3 r.2.l (.slice AL mL cL)) := Lib.hid (hr3.wide (fun q hq => ⟨Nat.le_trans D2.out.size hq.1, hq.2, by have := K2.out.lt; have := hq.1; omega⟩)); have I1 := Lib.hid hi1; have I2 := Lib.hid hi2; have r0 := K3.out.cell 0; have r1 := K3.out.cell 1; have r2 := K3.out.cell 2; have r3 := K3.out.cell 3; have r4 := K3.out.cell 4; have rf0 := K3.out.frozen 0; have rf1 := K3.out.frozen 1; have rf2 := K3.out.frozen 2; have rf3 := K3.out.frozen 3; have rf4 := K3.out.frozen 4; have rl := K3.out.lt; simp at r0 r1 r2 r3 r4; clear hp hd3 hr3 hi1 hi2)
        have q := ex_box K3.out (.string r.2.op) (.string r.2.nm) (.int .i64 r.2.n) (.slice AL mL cL) (.int .i64 r.2.a)
        have q0 := q.cell 0
        have q1 := q.cell 1
        have q2 := q.cell 2
        have q3 := q.cell 3
        have q4 := q.cell 4
        simp at q0 q1 q2 q3 q4
        have HZ := fin_ex P3.out D3.out (Nat.le_refl _) HG.out.1 HG.out.2.1 X3.out (.string r.2.op) (.string r.2.nm) (.int .i64 r.2.n) (.slice AL mL cL) (.int .i64 r.2.a)
        rw [HRr.out]
        refine bodyPost_ret (v := exV r.2.op r.2.nm r.2.n (.slice AL mL cL) r.2.a) (by simp [results, Tryz.results99, go_sem, q0, q1, q2, q3, q4]) rfl ⟨_, _, _, _, rfl, HZ.1, HZ.2.1, I1.out, I2.out, HZ.2.2⟩
    · have het : (t.text == [33]) = true := by rw [← HTx.out]; exact he
      have hne : (nxt len s).text ≠ [] := by rw [← HT0.out]; intro e; rw [e] at het; cases het
      obtain ⟨r, hr⟩ : ∃ q, q = exF len (f + 1) .part d s := ⟨_, rfl⟩
      have HC : Hid (∀ w, Par B b len M k d s w → Calls Tryz.prog 130 #[.pointer (some ⟨b, 0, none⟩), .string ⟨#[110, 111, 116]⟩] w (RetX B b len M k d r w)) := Lib.hid fun w h => by
        rw [hr]
        simp only [exF]
        rw [← HT0.out, het1, het]
        have := opp_any ihp oNot (HDk.out.2 (by intro e; rw [nxt_nil e] at hne; exact hne rfl)) h hne HF.out
        rw [← HT0.out] at this
        exact this
      have HRr := Lib.hid hr.symm
      clear hr hne het
      go_wp2_with (go_at_call 130; have HX := HC.out _ P2.out; (with_reducible refine HX.mono ?_); clear HX; rintro e w3 ⟨nL, AL, mL, cL, rfl, hp, hd3, hi1, hi2, hr3⟩; have P3 := Lib.hid hp; have D3 := Lib.hid (D2.out.trans hd3); have K3 := Lib.hid (hd3.blk K2.out HG.out.1.symm); have X3 : Hid (ExR (fun q => w.heap.size ≤ q ∧ q < w3.heap.size ∧ q ≠ w.heap.size) nL w3 r.2.l (.slice AL mL cL)) := Lib.hid (hr3.wide (fun q hq => ⟨Nat.le_trans D2.out.size hq.1, hq.2, by have := K2.out.lt; have := hq.1; omega⟩)); have I1 := Lib.hid hi1; have I2 := Lib.hid hi2; have r0 := K3.out.cell 0; have r1 := K3.out.cell 1; have r2 := K3.out.cell 2; have r3 := K3.out.cell 3; have r4 := K3.out.cell 4; have rf0 := K3.out.frozen 0; have rf1 := K3.out.frozen 1; have rf2 := K3.out.frozen 2; have rf3 := K3.out.frozen 3; have rf4 := K3.out.frozen 4; have rl := K3.out.lt; simp at r0 r1 r2 r3 r4; clear hp hd3 hr3 hi1 hi2)
      have q := ex_box K3.out (.string r.2.op) (.string r.2.nm) (.int .i64 r.2.n) (.slice AL mL cL) (.int .i64 r.2.a)
      have q0 := q.cell 0
      have q1 := q.cell 1
      have q2 := q.cell 2
      have q3 := q.cell 3
      have q4 := q.cell 4
      simp at q0 q1 q2 q3 q4
      have HZ := fin_ex P3.out D3.out (Nat.le_refl _) HG.out.1 HG.out.2.1 X3.out (.string r.2.op) (.string r.2.nm) (.int .i64 r.2.n) (.slice AL mL cL) (.int .i64 r.2.a)
      rw [HRr.out]
      refine bodyPost_ret (v := exV r.2.op r.2.nm r.2.n (.slice AL mL cL) r.2.a) (by simp [results, Tryz.results99, go_sem, q0, q1, q2, q3, q4]) rfl ⟨_, _, _, _, rfl, HZ.1, HZ.2.1, I1.out, I2.out, HZ.2.2⟩
  · have het : (t.text == [45]) = true := by rw [← HTx.out]; exact he
    have hne : (nxt len s).text ≠ [] := by rw [← HT0.out]; intro e; rw [e] at het; cases het
    obtain ⟨r, hr⟩ : ∃ q, q = exF len (f + 1) .part d s := ⟨_, rfl⟩
    have HC : Hid (∀ w, Par B b len M k d s w → Calls Tryz.prog 130 #[.pointer (some ⟨b, 0, none⟩), .string ⟨#[110, 101, 103]⟩] w (RetX B b len M k d r w)) := Lib.hid fun w h => by
      rw [hr]
      simp only [exF]
      rw [← HT0.out, het]
      have := opp_any ihp oNeg (HDk.out.2 (by intro e; rw [nxt_nil e] at hne; exact hne rfl)) h hne HF.out
      rw [← HT0.out] at this
      exact this
    have HRr := Lib.hid hr.symm
    clear hr hne het
    go_wp2_with (go_at_call 130; have HX := HC.out _ P2.out; (with_reducible refine HX.mono ?_); clear HX; rintro e w3 ⟨nL, AL, mL, cL, rfl, hp, hd3, hi1, hi2, hr3⟩; have P3 := Lib.hid hp; have D3 := Lib.hid (D2.out.trans hd3); have K3 := Lib.hid (hd3.blk K2.out HG.out.1.symm); have X3 : Hid (ExR (fun q => w.heap.size ≤ q ∧ q < w3.heap.size ∧ q ≠ w.heap.size) nL w3 r.2.l (.slice AL mL cL)) := Lib.hid (hr3.wide (fun q hq => ⟨Nat.le_trans D2.out.size hq.1, hq.2, by have := K2.out.lt; have := hq.1; omega⟩)); have I1 := Lib.hid hi1; have I2 := Lib.hid hi2; have r0 := K3.out.cell 0; have r1 := K3.out.cell 1; have r2 := K3.out.cell 2; have r3 := K3.out.cell 3; have r4 := K3.out.cell 4; have rf0 := K3.out.frozen 0; have rf1 := K3.out.frozen 1; have rf2 := K3.out.frozen 2; have rf3 := K3.out.frozen 3; have rf4 := K3.out.frozen 4; have rl := K3.out.lt; simp at r0 r1 r2 r3 r4; clear hp hd3 hr3 hi1 hi2)
    have q := ex_box K3.out (.string r.2.op) (.string r.2.nm) (.int .i64 r.2.n) (.slice AL mL cL) (.int .i64 r.2.a)
    have q0 := q.cell 0
    have q1 := q.cell 1
    have q2 := q.cell 2
    have q3 := q.cell 3
    have q4 := q.cell 4
    simp at q0 q1 q2 q3 q4
    have HZ := fin_ex P3.out D3.out (Nat.le_refl _) HG.out.1 HG.out.2.1 X3.out (.string r.2.op) (.string r.2.nm) (.int .i64 r.2.n) (.slice AL mL cL) (.int .i64 r.2.a)
    rw [HRr.out]
    refine bodyPost_ret (v := exV r.2.op r.2.nm r.2.n (.slice AL mL cL) r.2.a) (by simp [results, Tryz.results99, go_sem, q0, q1, q2, q3, q4]) rfl ⟨_, _, _, _, rfl, HZ.1, HZ.2.1, I1.out, I2.out, HZ.2.2⟩
end
end Go.Proofs.YteaongdlbleehaaGreatDoor

/- The parse layer: parts with signs between them; an expression. -/
namespace Go.Proofs.YteaongdlbleehaaGreatDoor
open Go.RowKit
attribute [local go_sem] field_at field_tx field_nn
section
variable {B b len k d n : Nat} {M : Value} {s : PS} {w : World}
/-- What stands at each round of parts. -/
def LpI (w : World) (B b len : Nat) (M : Value) (k d g5 o f : Nat) (R : PS × Ex) (gk : Nat) (wr : World) : Prop :=
  ∃ s x n A m c g, s.ts.length ≤ gk ∧ DOK d s ∧ Par B b len M k d s wr ∧ Pd b w wr ∧ Blk wr w.heap.size 52 #[.string ⟨#[]⟩, .string ⟨#[]⟩, .int .i64 0, .slice none 0 0, .int .i64 0] ∧ Blk wr g5 52 #[.string x.op, .string x.nm, .int .i64 x.n, .slice A m c, .int .i64 x.a] ∧ In64 x.n ∧ In64 x.a ∧ ExR (fun q => w.heap.size ≤ q ∧ q < wr.heap.size ∧ q ≠ w.heap.size ∧ q ≠ g5) n wr x.l (.slice A m c) ∧ 8 * s.ts.length + 1 ≤ g ∧ g ≤ f ∧ exF len g (.loop o x) d s = R
theorem dok_len {s1 : PS} (h : DOK d s) (hl : s1.ts.length ≤ s.ts.length) : DOK d s1 := ⟨h.1, fun q => h.2 (by intro e; rw [e] at hl; exact q (List.length_eq_zero_iff.1 (Nat.le_zero.1 hl)))⟩
theorem exr_two {P : Nat → Prop} {g : Nat} {t : TypeId} {x y : Ex} {L N : Value} (h : Blk w g t #[.string x.op, .string x.nm, .int .i64 x.n, L, .int .i64 x.a, .string y.op, .string y.nm, .int .i64 y.n, N, .int .i64 y.a]) (hg : P g) (h1 : In64 x.n ∧ In64 x.a ∧ In64 y.n ∧ In64 y.a) (hr : ExR P n w x.l L) (hs : ExR P n w y.l N) : ExR P (n + 1) w [x, y] (.slice (some ⟨g, 0, none⟩) 2 2) := by
  refine ⟨some ⟨g, 0, none⟩, 2, rfl, Nat.le_refl _, by simp, fun i z hz => ?_⟩
  match i, hz with
  | 0, hz =>
    simp at hz
    subst hz
    exact ⟨g, 0, L, rfl, hg, ⟨h.cell 0, h.cell 1, h.cell 2, h.cell 3, h.cell 4⟩, h1.1, h1.2.1, hr⟩
  | 1, hz =>
    simp at hz
    subst hz
    exact ⟨g, 0, N, rfl, hg, ⟨h.cell 5, h.cell 6, h.cell 7, h.cell 8, h.cell 9⟩, h1.2.2.1, h1.2.2.2, hs⟩
  | i + 2, hz => simp at hz
set_option maxHeartbeats 12800000 in
set_option maxRecDepth 100000 in
theorem parts_step {f : Nat} (ih : ∀ g, g ≤ f → PXp B b len M k g ∧ PXs B b len M k g) : PXs B b len M k (f + 1) := by
  intro o d s w ho1 ho6 h hdk hf
  obtain ⟨W0, hW0⟩ : ∃ W0, W0 = w.alloc (.cells #[.string ⟨#[]⟩, .string ⟨#[]⟩, .int .i64 0, .slice none 0 0, .int .i64 0] 52) := ⟨_, rfl⟩
  have B0 : Hid (Below w.heap.size w W0) := Lib.hid (by rw [hW0]; exact (Below.refl _ _).alloc (Nat.le_refl _) _)
  have K0 : Hid (Blk W0 w.heap.size 52 #[.string ⟨#[]⟩, .string ⟨#[]⟩, .int .i64 0, .slice none 0 0, .int .i64 0]) := Lib.hid (by rw [hW0]; exact Blk.new w _ _)
  have P0 := Lib.hid (h.below B0.out)
  have D0 := Lib.hid (Pd.of_below B0.out b)
  have HW0 := Lib.hid hW0
  have HG : Hid (b ≠ w.heap.size ∧ B ≤ w.heap.size ∧ b < w.heap.size) := Lib.hid ⟨Nat.ne_of_lt h.lt, Nat.le_trans h.lo (Nat.le_of_lt h.lt), h.lt⟩
  by_cases h6 : o = 6
  · have g6 : ((o : Int) == 6) = true := by rw [h6]; rfl
    obtain ⟨r, hr⟩ : ∃ q, q = exF len (f + 1) (.parts o) d s := ⟨_, rfl⟩
    have HC : Hid (∀ w, Par B b len M k d s w → Calls Tryz.prog 99 #[.pointer (some ⟨b, 0, none⟩)] w (RetX B b len M k d r w)) := Lib.hid fun w h => by
      rw [hr]
      simp only [exF]
      rw [if_pos h6]
      exact (ih f (Nat.le_refl _)).1 d s w h hdk (by omega)
    have HRr := Lib.hid hr.symm
    clear hW0 hr hf h6 h ih hdk
    go_enter Tryz.func71, Tryz.ntmps71
    go_upto_region 1 with fail
    rw [← HW0.out]
    go_wp2_with (go_at_call 99; have HX := HC.out _ P0.out; (with_reducible refine HX.mono ?_); clear HX; rintro e w3 ⟨nL, AL, mL, cL, rfl, hp, hd3, hi1, hi2, hr3⟩; have P3 := Lib.hid hp; have D3 := Lib.hid (D0.out.trans hd3); have K3 := Lib.hid (hd3.blk K0.out HG.out.1.symm); have X3 : Hid (ExR (fun q => w.heap.size ≤ q ∧ q < w3.heap.size ∧ q ≠ w.heap.size) nL w3 r.2.l (.slice AL mL cL)) := Lib.hid (hr3.wide (fun q hq => ⟨Nat.le_trans D0.out.size hq.1, hq.2, by have := K0.out.lt; have := hq.1; omega⟩)); have I1 := Lib.hid hi1; have I2 := Lib.hid hi2; have r0 := K3.out.cell 0; have r1 := K3.out.cell 1; have r2 := K3.out.cell 2; have r3 := K3.out.cell 3; have r4 := K3.out.cell 4; have rf0 := K3.out.frozen 0; have rf1 := K3.out.frozen 1; have rf2 := K3.out.frozen 2; have rf3 := K3.out.frozen 3; have rf4 := K3.out.frozen 4; have rl := K3.out.lt; simp at r0 r1 r2 r3 r4; clear hp hd3 hr3 hi1 hi2)
    have q := ex_box K3.out (.string r.2.op) (.string r.2.nm) (.int .i64 r.2.n) (.slice AL mL cL) (.int .i64 r.2.a)
    have q0 := q.cell 0
    have q1 := q.cell 1
    have q2 := q.cell 2
    have q3 := q.cell 3
    have q4 := q.cell 4
    simp at q0 q1 q2 q3 q4
    have HZ := fin_ex P3.out D3.out (Nat.le_refl _) HG.out.1 HG.out.2.1 X3.out (.string r.2.op) (.string r.2.nm) (.int .i64 r.2.n) (.slice AL mL cL) (.int .i64 r.2.a)
    rw [HRr.out]
    refine bodyPost_ret (v := exV r.2.op r.2.nm r.2.n (.slice AL mL cL) r.2.a) (by simp [results, Tryz.results71, go_sem, q0, q1, q2, q3, q4]) rfl ⟨_, _, _, _, rfl, HZ.1, HZ.2.1, I1.out, I2.out, HZ.2.2⟩
  · have g6 : ((o : Int) == 6) = false := by simp; omega
    have go1 : IntKind.i64.wrap ((o : Int) + 1) = (o : Int) + 1 := IntWalk.i64_in _ (by omega)
    obtain ⟨r, hr⟩ : ∃ q, q = exF len f (.parts (o + 1)) d s := ⟨_, rfl⟩
    have HC : Hid (∀ w, Par B b len M k d s w → Calls Tryz.prog 71 #[.pointer (some ⟨b, 0, none⟩), .int .i64 ((o : Int) + 1)] w (RetX B b len M k d r w)) := Lib.hid fun w h => by
      rw [hr]
      exact (ih f (Nat.le_refl _)).2 (o + 1) d s w (by omega) (by omega) h hdk (by omega)
    have HE : Hid (exF len f (.loop o r.2) d r.1 = exF len (f + 1) (.parts o) d s) := Lib.hid (by
      rw [hr]
      simp only [exF]
      rw [if_neg h6])
    have HLr : Hid (r.1.ts.length ≤ s.ts.length) := Lib.hid (by rw [hr]; exact exF_len _ _ _ _)
    have HIH := Lib.hid ih
    have HDk := Lib.hid hdk
    have HF := Lib.hid hf
    have HO6 : Hid (o ≤ 5) := Lib.hid (by omega)
    clear hW0 hr hf h6 h ih hdk ho6
    obtain ⟨s1, x1⟩ := r
    go_enter Tryz.func71, Tryz.ntmps71
    go_upto_region 1 with fail
    rw [← HW0.out]
    go_upto_block 0 with (go_at_call 71; have HX := HC.out _ P0.out; (with_reducible refine HX.mono ?_); clear HX; rintro e w2 ⟨nL, AL, mL, cL, rfl, hp, hd2, hi1, hi2, hr2⟩; have P2 := Lib.hid hp; have D2 := Lib.hid (D0.out.trans hd2); have K2 := Lib.hid (hd2.blk K0.out HG.out.1.symm); have R2 := Lib.hid (And.intro hi1 (And.intro hi2 hr2)); clear hp hd2 hr2 hi1 hi2)
    obtain ⟨W3, hW3⟩ : ∃ q, q = w2.alloc (.cells #[.string x1.op, .string x1.nm, .int .i64 x1.n, .slice AL mL cL, .int .i64 x1.a] 52) := ⟨_, rfl⟩
    have E3 : Hid (Below w2.heap.size w2 W3) := Lib.hid (by rw [hW3]; exact (Below.refl _ _).alloc (Nat.le_refl _) _)
    have T3 : Hid (Blk W3 w2.heap.size 52 #[.string x1.op, .string x1.nm, .int .i64 x1.n, .slice AL mL cL, .int .i64 x1.a]) := Lib.hid (by rw [hW3]; exact Blk.new w2 _ _)
    have HT : Hid (w.heap.size ≠ w2.heap.size ∧ b ≠ w2.heap.size ∧ w.heap.size ≤ w2.heap.size ∧ B ≤ w2.heap.size) := Lib.hid ⟨Nat.ne_of_lt K2.out.lt, Nat.ne_of_lt P2.out.lt, D2.out.size, Nat.le_trans HG.out.2.1 D2.out.size⟩
    have HST : Hid (LpI w B b len M k d w2.heap.size o f (exF len (f + 1) (.parts o) d s) s1.ts.length W3) := Lib.hid ⟨s1, x1, nL, AL, mL, cL, f, Nat.le_refl _, dok_len HDk.out HLr.out, P2.out.below E3.out, D2.out.then_ E3.out, K2.out.below E3.out K2.out.lt, T3.out, R2.out.1, R2.out.2.1, (R2.out.2.2.below E3.out (fun q hq => hq.2)).wide (fun q hq => ⟨Nat.le_trans D0.out.size hq.1, Nat.lt_of_lt_of_le hq.2 E3.out.size, by have := K0.out.lt; have := hq.1; omega, by have := hq.2; omega⟩), by have := HF.out; have := HO6.out; have : s1.ts.length ≤ s.ts.length := HLr.out; omega, Nat.le_refl _, HE.out⟩
    rw [← hW3]
    clear hW3 E3 T3 R2 K2 P2 D2 HE
    obtain ⟨g5, hg5⟩ : ∃ q, q = w2.heap.size := ⟨_, rfl⟩
    rw [← hg5] at HT HST ⊢
    clear hg5
    go_wp2_with fail
    go_loopg [6] s1.ts.length (fun gk _ wr => LpI w B b len M k d g5 o f (exF len (f + 1) (.parts o) d s) gk wr)
    case atStart => exact HST.out
    case round =>
      obtain ⟨s2, x, n, A, m, c, g, hgk, hdk, hp, hd, hK, hT, hi1, hi2, hx, hg1, hg2, hR⟩ := hrel
      obtain ⟨g, rfl⟩ : ∃ q, g = q + 1 := ⟨g - 1, by omega⟩
      have HGk0 := Lib.hid hgk
      have HDk2 := Lib.hid hdk
      have P1 := Lib.hid hp
      have D1 := Lib.hid hd
      have K1 := Lib.hid hK
      have T1 := Lib.hid hT
      have IX := Lib.hid (And.intro hi1 hi2)
      have X1 := Lib.hid hx
      have HG1 := Lib.hid (And.intro hg1 hg2)
      have HR := Lib.hid hR
      clear hgk hdk hp hd hK hT hi1 hi2 hx hg1 hg2 hR HST
      obtain ⟨t, ht⟩ : ∃ t, t = nxt len s2 := ⟨_, rfl⟩
      have HN := Lib.hid (next_any P1.out)
      rw [← ht] at HN
      have HTk : Hid (∀ w, Par B b len M k d s2 w → Calls Tryz.prog 101 #[.pointer (some ⟨b, 0, none⟩)] w (RetP B b len M k d (tkV t) (takeF s2) w)) := Lib.hid fun w h => by rw [ht]; exact take_any h
      unfold tkV at HN HTk
      have HLv := Lib.hid (level_any t.text)
      obtain ⟨lv, hlv⟩ : ∃ q, q = levL t.text := ⟨_, rfl⟩
      rw [← hlv] at HLv
      have HLv2 := Lib.hid hlv
      have HT0 := Lib.hid ht
      obtain ⟨tx, htx⟩ : ∃ q, q = bA t.text := ⟨_, rfl⟩
      rw [← htx] at HN HTk HLv
      have HTb := Lib.hid htx.symm
      have HAt : Hid (In64 (t.at_ : Int)) := Lib.hid (in64_small (by rw [ht]; have := (nxt_b (len := len) P1.out.hl P1.out.tb).1; omega))
      clear ht hlv htx
      by_cases hlo : lv = o
      · have g0 : ((lv : Int) == (o : Int)) = true := by rw [hlo]; simp
        have hne : (nxt len s2).text ≠ [] := by rw [← HT0.out]; apply lev_pos; rw [← HLv2.out, hlo]; omega
        have hpos := nxt_text_pos hne
        obtain ⟨r2, hr2⟩ : ∃ q, q = exF len g (.parts (o + 1)) d (takeF s2) := ⟨_, rfl⟩
        have HCx : Hid (∀ w, Par B b len M k d (takeF s2) w → Calls Tryz.prog 71 #[.pointer (some ⟨b, 0, none⟩), .int .i64 ((o : Int) + 1)] w (RetX B b len M k d r2 w)) := Lib.hid fun w h => by
          rw [hr2]
          exact (HIH.out g (by have := HG1.out.2; omega)).2 (o + 1) d (takeF s2) w (by omega) (by have := HO6.out; omega) h (dok_len HDk2.out (by rw [take_len]; omega)) (by rw [take_len]; have := HG1.out.1; omega)
        have HL : Hid (exF len (g + 1) (.loop o x) d s2 = if o = 3 then (r2.1, .mk tx ⟨#[]⟩ 0 [x, r2.2] (t.at_ : Int)) else exF len g (.loop o (.mk tx ⟨#[]⟩ 0 [x, r2.2] (t.at_ : Int))) d r2.1) := Lib.hid (by
          rw [hr2]
          simp only [exF]
          rw [← HT0.out, if_pos (by rw [← HLv2.out, hlo]), HTb.out])
        have hl4 : r2.1.ts.length + 1 ≤ s2.ts.length := by rw [hr2]; have := exF_len (len := len) g (.parts (o + 1)) d (takeF s2); rw [take_len] at this; omega
        have H4 : Hid (r2.1.ts.length ≤ gk - 1 ∧ DOK d r2.1) := Lib.hid ⟨by have := HGk0.out; omega, dok_len HDk2.out (by omega)⟩
        have H5 : Hid (8 * r2.1.ts.length + 1 ≤ g ∧ g ≤ f) := Lib.hid ⟨by have := HG1.out.1; omega, by have := HG1.out.2; omega⟩
        have HGk : Hid (gk - 1 < gk) := Lib.hid (by have := HGk0.out; omega)
        clear hr2 hl4 hne hpos hlo HIH HF HDk
        obtain ⟨s4, y⟩ := r2
        go_upto_region 6 with (first
          | (go_at_call 86; have HX := HN.out; (with_reducible refine HX.mono ?_); clear HX; rintro e wa ⟨rfl, hb⟩; have Pa := Lib.hid (P1.out.below hb); have Da := Lib.hid (D1.out.then_ hb); have Ka := Lib.hid (K1.out.below hb K1.out.lt); have Ta := Lib.hid (T1.out.below hb T1.out.lt); have Xa := Lib.hid ((X1.out.below hb (fun q hq => hq.2.1)).wide (P' := fun q => w.heap.size ≤ q ∧ q < wa.heap.size ∧ q ≠ w.heap.size ∧ q ≠ g5) (fun q hq => ⟨hq.1, Nat.lt_of_lt_of_le hq.2.1 hb.size, hq.2.2⟩)); clear hb)
          | (go_at_call 100; (with_reducible refine (HLv.out _).mono ?_); rintro e wz ⟨rfl, rfl⟩)
          | (go_at_call 101; have HX := HTk.out _ Pa.out; (with_reducible refine HX.mono ?_); clear HX; rintro e wb ⟨rfl, hp, hd⟩; have Pb := Lib.hid hp; have Db := Lib.hid (Da.out.trans hd); have Kb := Lib.hid (hd.blk Ka.out HG.out.1.symm); have Tb := Lib.hid (hd.blk Ta.out HT.out.2.1.symm); have Xb := Lib.hid ((Xa.out.pd hd (fun q hq => ⟨hq.2.1, by have := HG.out.2.2; have := hq.1; omega⟩)).wide (P' := fun q => w.heap.size ≤ q ∧ q < wb.heap.size ∧ q ≠ w.heap.size ∧ q ≠ g5) (fun q hq => ⟨hq.1, Nat.lt_of_lt_of_le hq.2.1 hd.size, hq.2.2⟩)); clear hp hd))
        obtain ⟨Wc, hWc⟩ : ∃ q, q = wb.alloc (.cells #[.int .i64 (t.kind : Int), .string tx, .int .i64 (t.n : Int), .int .i64 (t.at_ : Int)] 49) := ⟨_, rfl⟩
        have Ec : Hid (Below wb.heap.size wb Wc) := Lib.hid (by rw [hWc]; exact (Below.refl _ _).alloc (Nat.le_refl _) _)
        have Qc : Hid (Blk Wc wb.heap.size 49 #[.int .i64 (t.kind : Int), .string tx, .int .i64 (t.n : Int), .int .i64 (t.at_ : Int)]) := Lib.hid (by rw [hWc]; exact Blk.new wb _ _)
        have EE : Hid (Below wb.heap.size wb Wc.drew) := Lib.hid Ec.out.drew
        have P3 := Lib.hid (Pb.out.below EE.out)
        have D3 := Lib.hid (Db.out.then_ EE.out)
        have K3 := Lib.hid (Kb.out.below EE.out Kb.out.lt)
        have T3 := Lib.hid (Tb.out.below EE.out Tb.out.lt)
        have Q3 : Hid (Blk Wc.drew wb.heap.size 49 #[.int .i64 (t.kind : Int), .string tx, .int .i64 (t.n : Int), .int .i64 (t.at_ : Int)]) := Lib.hid Qc.out
        have X3 : Hid (ExR (fun q => w.heap.size ≤ q ∧ q < Wc.drew.heap.size ∧ q ≠ w.heap.size ∧ q ≠ g5) n Wc.drew x.l (.slice A m c)) := Lib.hid ((Xb.out.below EE.out (fun q hq => hq.2.1)).wide (fun q hq => ⟨hq.1, Nat.lt_of_lt_of_le hq.2.1 EE.out.size, hq.2.2⟩))
        have HQ : Hid (wb.heap.size ≠ g5 ∧ b ≠ wb.heap.size) := Lib.hid ⟨Nat.ne_of_gt Tb.out.lt, Nat.ne_of_lt Pb.out.lt⟩
        have HS6 : Hid (∀ w', Blk w' wb.heap.size 49 #[.int .i64 (t.kind : Int), .string tx, .int .i64 (t.n : Int), .int .i64 (t.at_ : Int)] → w'.cell? ⟨wb.heap.size, 1, none⟩ = some (.string tx) ∧ w'.cell? ⟨wb.heap.size, 3, none⟩ = some (.int .i64 (t.at_ : Int))) := Lib.hid fun w' h => ⟨h.cell 1, h.cell 3⟩
        have S0 := Lib.hid (HS6.out _ Q3.out)
        rw [← hWc]
        clear hWc Pa Da Ka Ta Xa Pb Db Kb Tb Xb P1 D1 K1 T1 X1 Ec Qc EE HN HTk HLv
        refine wp_region_held_drew (S := fun w' => w'.cell? ⟨wb.heap.size, 1, none⟩ = some (.string tx) ∧ w'.cell? ⟨wb.heap.size, 3, none⟩ = some (.int .i64 (t.at_ : Int))) (by kernel_rfl) S0.out (fun k0 => ?_)
        refine wpAnyH_take (i := 0) (oi := ⟨some 23, _, _, _, _, _⟩) (v := ?_) rfl (by kernel_rfl) (by kernel_rfl) (by kernel_rfl) (fun _ _ _ h => h) (Or.inl ⟨by rfl, ?_⟩) k0 ?_
        rotate_left
        · intro w hSw
          try dsimp only at hSw
          go_simp
          try with_reducible rfl
        try simp only [Act.put, List.setIfInBounds_toArray, List.set_cons_zero, List.set_cons_succ]
        refine wpAnyH_take (i := 1) (oi := ⟨some 24, _, _, _, _, _⟩) (v := ?_) rfl (by kernel_rfl) (by kernel_rfl) (by kernel_rfl) (fun _ _ _ h => h) (Or.inl ⟨by rfl, ?_⟩) k0 ?_
        rotate_left
        · intro w hSw
          try dsimp only at hSw
          go_simp
          try with_reducible rfl
        try simp only [Act.put, List.setIfInBounds_toArray, List.set_cons_zero, List.set_cons_succ]
        refine wpAnyH_take (i := 3) (oi := ⟨some 26, _, _, _, _, _⟩) (v := ?_) rfl (by kernel_rfl) (by kernel_rfl) (by kernel_rfl) (fun _ _ _ h => h) (Or.inl ⟨by rfl, ?_⟩) k0 ?_
        rotate_left
        · intro w hSw
          try dsimp only at hSw
          go_simp
          try with_reducible rfl
        try simp only [Act.put, List.setIfInBounds_toArray, List.set_cons_zero, List.set_cons_succ]
        refine wpAnyH_take (i := 4) (oi := ⟨some 27, _, _, _, _, _⟩) (v := ?_) rfl (by kernel_rfl) (by kernel_rfl) (by kernel_rfl) (fun _ _ _ h => h) (Or.inl ⟨by rfl, ?_⟩) k0 ?_
        rotate_left
        · intro w hSw
          try dsimp only at hSw
          go_simp
          try with_reducible rfl
        try simp only [Act.put, List.setIfInBounds_toArray, List.set_cons_zero, List.set_cons_succ]
        refine wpAnyH_take (i := 5) (oi := ⟨some 28, _, _, _, _, _⟩) (v := ?_) rfl (by kernel_rfl) (by kernel_rfl) (by kernel_rfl) (fun _ _ _ h => h) (Or.inl ⟨by rfl, ?_⟩) k0 ?_
        rotate_left
        · intro w hSw
          try dsimp only at hSw
          go_simp
          try with_reducible rfl
        try simp only [Act.put, List.setIfInBounds_toArray, List.set_cons_zero, List.set_cons_succ]
        refine wpAnyH_take (i := 8) (oi := ⟨some 31, _, _, _, _, _⟩) (v := ?_) rfl (by kernel_rfl) (by kernel_rfl) (by kernel_rfl) (fun _ _ _ h => h) (Or.inl ⟨by rfl, ?_⟩) k0 ?_
        rotate_left
        · intro w hSw
          try dsimp only at hSw
          go_simp
          try with_reducible rfl
        try simp only [Act.put, List.setIfInBounds_toArray, List.set_cons_zero, List.set_cons_succ]
        refine wpAnyH_take (i := 9) (oi := ⟨some 32, _, _, _, _, _⟩) (v := ?_) rfl (by kernel_rfl) (by kernel_rfl) (by kernel_rfl) (fun _ _ _ h => h) (Or.inl ⟨by rfl, ?_⟩) k0 ?_
        rotate_left
        · intro w hSw
          try dsimp only at hSw
          go_simp
          try with_reducible rfl
        try simp only [Act.put, List.setIfInBounds_toArray, List.set_cons_zero, List.set_cons_succ]
        refine wpAnyH_ready (rs := [2, 6]) (by kernel_rfl) (by simp) ?_
        refine (AllReadyH.cons (o := ⟨some 25, _, _, _, _, _⟩) rfl (fun K' hK => ?_) (AllReadyH.cons (o := ⟨some 29, _, _, _, _, _⟩) rfl (fun K' hK => ?_) AllReadyH.nil))
        · have tf0 := T3.out.cell 0
          have tf1 := T3.out.cell 1
          have tf2 := T3.out.cell 2
          have tf3 := T3.out.cell 3
          have tf4 := T3.out.cell 4
          simp at tf0 tf1 tf2 tf3 tf4
          go_simp
          refine hK.out _ _ S0.out (fun h1 => ?_)
          clear hK K'
          try simp only [Act.put, List.setIfInBounds_toArray, List.set_cons_zero, List.set_cons_succ]
          clear tf0 tf1 tf2 tf3 tf4
          refine wpAnyH_ready (rs := [6]) (by kernel_rfl) (by simp) ?_
          refine (AllReadyH.cons (o := ⟨some 29, _, _, _, _, _⟩) rfl (fun K' hK => ?_) AllReadyH.nil)
          go_simp
          refine (HCx.out _ P3.out).mono ?_
          rintro e w4 ⟨nL, AL, mL, cL, rfl, hp, hd4, hi1, hi2, hr4⟩
          have P4 := Lib.hid hp
          have D4 := Lib.hid (D3.out.trans hd4)
          have K4 := Lib.hid (hd4.blk K3.out HG.out.1.symm)
          have T4 := Lib.hid (hd4.blk T3.out HT.out.2.1.symm)
          have Q4 := Lib.hid (hd4.blk Q3.out HQ.out.2.symm)
          have S4 := Lib.hid (HS6.out _ Q4.out)
          have I1 := Lib.hid hi1
          have I2 := Lib.hid hi2
          have X4 : Hid (ExR (fun q => w.heap.size ≤ q ∧ q < w4.heap.size ∧ q ≠ w.heap.size ∧ q ≠ g5) n w4 x.l (.slice A m c)) := Lib.hid ((X3.out.pd hd4 (fun q hq => ⟨hq.2.1, by have := HG.out.2.2; have := hq.1; omega⟩)).wide (fun q hq => ⟨hq.1, Nat.lt_of_lt_of_le hq.2.1 hd4.size, hq.2.2⟩))
          have Y4 : Hid (ExR (fun q => w.heap.size ≤ q ∧ q < w4.heap.size ∧ q ≠ w.heap.size ∧ q ≠ g5) nL w4 y.l (.slice AL mL cL)) := Lib.hid (hr4.wide (fun q hq => ⟨Nat.le_trans D3.out.size hq.1, hq.2, by have := K3.out.lt; have := hq.1; omega, by have := T3.out.lt; have := hq.1; omega⟩))
          clear hp hd4 hi1 hi2 hr4
          go_wp2_with fail
          refine hK.out _ _ S4.out (fun h2 => ?_)
          clear hK K'
          try simp only [Act.put, List.setIfInBounds_toArray, List.set_cons_zero, List.set_cons_succ]
          refine wpAnyH_ready (rs := [7]) (by kernel_rfl) (by simp) ?_
          refine (AllReadyH.cons (o := ⟨some 30, _, _, _, _, _⟩) rfl (fun K' hK => ?_) AllReadyH.nil)
          obtain ⟨w5, hw5⟩ : ∃ q, q = w4.alloc (.cells #[.string x.op, .string x.nm, .int .i64 x.n, .slice A m c, .int .i64 x.a, .string y.op, .string y.nm, .int .i64 y.n, .slice AL mL cL, .int .i64 y.a] 52) := ⟨_, rfl⟩
          have B5 : Hid (Below w4.heap.size w4 w5) := Lib.hid (by rw [hw5]; exact (Below.refl _ _).alloc (Nat.le_refl _) _)
          have N5 : Hid (Blk w5 w4.heap.size 52 #[.string x.op, .string x.nm, .int .i64 x.n, .slice A m c, .int .i64 x.a, .string y.op, .string y.nm, .int .i64 y.n, .slice AL mL cL, .int .i64 y.a]) := Lib.hid (by rw [hw5]; exact Blk.new w4 _ _)
          have P5 := Lib.hid (P4.out.below B5.out)
          have D5 := Lib.hid (D4.out.then_ B5.out)
          have K5 := Lib.hid (K4.out.below B5.out K4.out.lt)
          have T5 := Lib.hid (T4.out.below B5.out T4.out.lt)
          have Q5 := Lib.hid (Q4.out.below B5.out Q4.out.lt)
          have S5 := Lib.hid (HS6.out _ Q5.out)
          have X5 : Hid (ExR (fun q => w.heap.size ≤ q ∧ q < w5.heap.size ∧ q ≠ w.heap.size ∧ q ≠ g5) (n + nL + 1) w5 [x, y] (.slice (some ⟨w4.heap.size, 0, none⟩) 2 2)) := Lib.hid (exr_two N5.out ⟨by have := K4.out.lt; omega, N5.out.lt, by have := K4.out.lt; omega, by have := T4.out.lt; omega⟩ ⟨IX.out.1, IX.out.2, I1.out, I2.out⟩ (((X4.out.below B5.out (fun q hq => hq.2.1)).wide (fun q hq => ⟨hq.1, Nat.lt_of_lt_of_le hq.2.1 B5.out.size, hq.2.2⟩)).le (Nat.le_add_right _ _)) (((Y4.out.below B5.out (fun q hq => hq.2.1)).wide (fun q hq => ⟨hq.1, Nat.lt_of_lt_of_le hq.2.1 B5.out.size, hq.2.2⟩)).le (Nat.le_add_left _ _)))
          go_simp
          rw [← hw5]
          clear hw5
          refine hK.out _ _ S5.out (fun h7 => ?_)
          clear hK K'
          try simp only [Act.put, List.setIfInBounds_toArray, List.set_cons_zero, List.set_cons_succ]
          refine wpAnyH_take (i := 10) (oi := ⟨some 33, _, _, _, _, _⟩) (v := ?_) rfl (by kernel_rfl) (by kernel_rfl) (by kernel_rfl) (fun _ _ _ h => h) (Or.inl ⟨by rfl, ?_⟩) h7 ?_
          rotate_left
          · intro w hSw
            try dsimp only at hSw
            go_simp
            try with_reducible rfl
          try simp only [Act.put, List.setIfInBounds_toArray, List.set_cons_zero, List.set_cons_succ]
          refine wpAnyH_ready (rs := [11]) (by kernel_rfl) (by simp) ?_
          refine (AllReadyH.cons (o := ⟨none, _, _, _, _, _⟩) rfl (fun K' hK => ?_) AllReadyH.nil)
          have t0 := T5.out.cell 0
          have t1 := T5.out.cell 1
          have t2 := T5.out.cell 2
          have t3 := T5.out.cell 3
          have t4 := T5.out.cell 4
          have f0 := T5.out.frozen 0
          have f1 := T5.out.frozen 1
          have f2 := T5.out.frozen 2
          have f3 := T5.out.frozen 3
          have f4 := T5.out.frozen 4
          have fl := T5.out.lt
          simp at t0 t1 t2 t3 t4
          have S6 := Lib.hid (HS6.out _ (((((Q5.out.far (p := ⟨g5, 0, none⟩) HQ.out.1 (.string tx)).far (p := ⟨g5, 1, none⟩) HQ.out.1 (.string ⟨#[]⟩)).far (p := ⟨g5, 2, none⟩) HQ.out.1 (.int .i64 0)).far (p := ⟨g5, 3, none⟩) HQ.out.1 (.slice (some ⟨w4.heap.size, 0, none⟩) 2 2)).far (p := ⟨g5, 4, none⟩) HQ.out.1 (.int .i64 (t.at_ : Int))))
          go_simp
          refine hK.out _ _ S6.out (fun h8 => ?_)
          clear hK K'
          try simp only [Act.put, List.setIfInBounds_toArray, List.set_cons_zero, List.set_cons_succ]
          clear t0 t1 t2 t3 t4 f0 f1 f2 f3 f4 fl
          refine wpAnyH_done (by kernel_rfl) ?_ _
          have FK := five_kept (w := w5) (g := g5) (.string tx) (.string ⟨#[]⟩) (.int .i64 0) (.slice (some ⟨w4.heap.size, 0, none⟩) 2 2) (.int .i64 (t.at_ : Int))
          have P6 := Lib.hid (((((P5.out.far HT.out.2.1 HT.out.2.2.2 (.string tx) (p := ⟨g5, 0, none⟩)).far HT.out.2.1 HT.out.2.2.2 (.string ⟨#[]⟩) (p := ⟨g5, 1, none⟩)).far HT.out.2.1 HT.out.2.2.2 (.int .i64 0) (p := ⟨g5, 2, none⟩)).far HT.out.2.1 HT.out.2.2.2 (.slice (some ⟨w4.heap.size, 0, none⟩) 2 2) (p := ⟨g5, 3, none⟩)).far HT.out.2.1 HT.out.2.2.2 (.int .i64 (t.at_ : Int)) (p := ⟨g5, 4, none⟩))
          have D6 := Lib.hid (((((D5.out.fresh (p := ⟨g5, 0, none⟩) HT.out.2.2.1 (.string tx)).fresh (p := ⟨g5, 1, none⟩) HT.out.2.2.1 (.string ⟨#[]⟩)).fresh (p := ⟨g5, 2, none⟩) HT.out.2.2.1 (.int .i64 0)).fresh (p := ⟨g5, 3, none⟩) HT.out.2.2.1 (.slice (some ⟨w4.heap.size, 0, none⟩) 2 2)).fresh (p := ⟨g5, 4, none⟩) HT.out.2.2.1 (.int .i64 (t.at_ : Int)))
          have K6 : Hid (Blk (((((w5.setCell ⟨g5, 0, none⟩ (.string tx)).setCell ⟨g5, 1, none⟩ (.string ⟨#[]⟩)).setCell ⟨g5, 2, none⟩ (.int .i64 0)).setCell ⟨g5, 3, none⟩ (.slice (some ⟨w4.heap.size, 0, none⟩) 2 2)).setCell ⟨g5, 4, none⟩ (.int .i64 (t.at_ : Int))) w.heap.size 52 #[.string ⟨#[]⟩, .string ⟨#[]⟩, .int .i64 0, .slice none 0 0, .int .i64 0]) := Lib.hid ((FK.1 _ HT.out.1).trans K5.out)
          have T6 : Hid (Blk (((((w5.setCell ⟨g5, 0, none⟩ (.string tx)).setCell ⟨g5, 1, none⟩ (.string ⟨#[]⟩)).setCell ⟨g5, 2, none⟩ (.int .i64 0)).setCell ⟨g5, 3, none⟩ (.slice (some ⟨w4.heap.size, 0, none⟩) 2 2)).setCell ⟨g5, 4, none⟩ (.int .i64 (t.at_ : Int))) g5 52 #[.string tx, .string ⟨#[]⟩, .int .i64 0, .slice (some ⟨w4.heap.size, 0, none⟩) 2 2, .int .i64 (t.at_ : Int)]) := Lib.hid (((((T5.out.set_ 0 _).set_ 1 _).set_ 2 _).set_ 3 _).set_ 4 _)
          have X6 : Hid (ExR (fun q => w.heap.size ≤ q ∧ q < (((((w5.setCell ⟨g5, 0, none⟩ (.string tx)).setCell ⟨g5, 1, none⟩ (.string ⟨#[]⟩)).setCell ⟨g5, 2, none⟩ (.int .i64 0)).setCell ⟨g5, 3, none⟩ (.slice (some ⟨w4.heap.size, 0, none⟩) 2 2)).setCell ⟨g5, 4, none⟩ (.int .i64 (t.at_ : Int))).heap.size ∧ q ≠ w.heap.size ∧ q ≠ g5) (n + nL + 1) (((((w5.setCell ⟨g5, 0, none⟩ (.string tx)).setCell ⟨g5, 1, none⟩ (.string ⟨#[]⟩)).setCell ⟨g5, 2, none⟩ (.int .i64 0)).setCell ⟨g5, 3, none⟩ (.slice (some ⟨w4.heap.size, 0, none⟩) 2 2)).setCell ⟨g5, 4, none⟩ (.int .i64 (t.at_ : Int))) [x, y] (.slice (some ⟨w4.heap.size, 0, none⟩) 2 2)) := Lib.hid ((X5.out.kept (fun q hq => FK.1 q hq.2.2.2)).wide (fun q hq => ⟨hq.1, by rw [FK.2]; exact hq.2.1, hq.2.2⟩))
          clear FK
          obtain ⟨w6, hw6⟩ : ∃ q, ((((w5.setCell ⟨g5, 0, none⟩ (.string tx)).setCell ⟨g5, 1, none⟩ (.string ⟨#[]⟩)).setCell ⟨g5, 2, none⟩ (.int .i64 0)).setCell ⟨g5, 3, none⟩ (.slice (some ⟨w4.heap.size, 0, none⟩) 2 2)).setCell ⟨g5, 4, none⟩ (.int .i64 (t.at_ : Int)) = q := ⟨_, rfl⟩
          rw [hw6] at P6 D6 K6 T6 X6 ⊢
          clear hw6
          by_cases ho3 : o = 3
          · have gi : ((o : Int) == 3) = true := by rw [ho3]; rfl
            have HE3 : Hid (exF len (f + 1) (.parts o) d s = (s4, .mk tx ⟨#[]⟩ 0 [x, y] (t.at_ : Int))) := Lib.hid (by rw [← HR.out, HL.out, if_pos ho3])
            have X7 : Hid (ExR (fun q => w.heap.size ≤ q ∧ q < w6.heap.size ∧ q ≠ w.heap.size) (n + nL + 1) w6 [x, y] (.slice (some ⟨w4.heap.size, 0, none⟩) 2 2)) := Lib.hid (X6.out.wide (fun q hq => ⟨hq.1, hq.2.1, hq.2.2.1⟩))
            clear ho3
            have t0 := T6.out.cell 0
            have t1 := T6.out.cell 1
            have t2 := T6.out.cell 2
            have t3 := T6.out.cell 3
            have t4 := T6.out.cell 4
            simp at t0 t1 t2 t3 t4
            have r0 := K6.out.cell 0
            have r1 := K6.out.cell 1
            have r2 := K6.out.cell 2
            have r3 := K6.out.cell 3
            have r4 := K6.out.cell 4
            have rf0 := K6.out.frozen 0
            have rf1 := K6.out.frozen 1
            have rf2 := K6.out.frozen 2
            have rf3 := K6.out.frozen 3
            have rf4 := K6.out.frozen 4
            have rl := K6.out.lt
            simp at r0 r1 r2 r3 r4
            go_wp2
            have q := ex_box K6.out (.string tx) (.string ⟨#[]⟩) (.int .i64 0) (.slice (some ⟨w4.heap.size, 0, none⟩) 2 2) (.int .i64 (t.at_ : Int))
            have q0 := q.cell 0
            have q1 := q.cell 1
            have q2 := q.cell 2
            have q3 := q.cell 3
            have q4 := q.cell 4
            simp at q0 q1 q2 q3 q4
            have HZ := fin_ex P6.out D6.out (Nat.le_refl _) HG.out.1 HG.out.2.1 X7.out (.string tx) (.string ⟨#[]⟩) (.int .i64 0) (.slice (some ⟨w4.heap.size, 0, none⟩) 2 2) (.int .i64 (t.at_ : Int))
            rw [HE3.out]
            refine bodyPost_ret (v := exV tx ⟨#[]⟩ 0 (.slice (some ⟨w4.heap.size, 0, none⟩) 2 2) (t.at_ : Int)) (by simp [results, Tryz.results71, go_sem, q0, q1, q2, q3, q4]) rfl ⟨_, _, _, _, rfl, HZ.1, HZ.2.1, in64_zero, HAt.out, HZ.2.2⟩
          · have gi : ((o : Int) == 3) = false := by simp; omega
            have HE3 : Hid (exF len g (.loop o (.mk tx ⟨#[]⟩ 0 [x, y] (t.at_ : Int))) d s4 = exF len (f + 1) (.parts o) d s) := Lib.hid (by rw [← HR.out, HL.out, if_neg ho3])
            clear ho3
            go_wp2_with fail
            go_roundg (gk - 1)
            case rel => exact ⟨s4, .mk tx ⟨#[]⟩ 0 [x, y] (t.at_ : Int), _, _, _, _, g, H4.out.1, H4.out.2, P6.out, D6.out, K6.out, T6.out, in64_zero, HAt.out, X6.out, H5.out.1, H5.out.2, HE3.out⟩
            case measure => have := HGk.out; omega
        · go_simp
          refine (HCx.out _ P3.out).mono ?_
          rintro e w4 ⟨nL, AL, mL, cL, rfl, hp, hd4, hi1, hi2, hr4⟩
          have P4 := Lib.hid hp
          have D4 := Lib.hid (D3.out.trans hd4)
          have K4 := Lib.hid (hd4.blk K3.out HG.out.1.symm)
          have T4 := Lib.hid (hd4.blk T3.out HT.out.2.1.symm)
          have Q4 := Lib.hid (hd4.blk Q3.out HQ.out.2.symm)
          have S4 := Lib.hid (HS6.out _ Q4.out)
          have I1 := Lib.hid hi1
          have I2 := Lib.hid hi2
          have X4 : Hid (ExR (fun q => w.heap.size ≤ q ∧ q < w4.heap.size ∧ q ≠ w.heap.size ∧ q ≠ g5) n w4 x.l (.slice A m c)) := Lib.hid ((X3.out.pd hd4 (fun q hq => ⟨hq.2.1, by have := HG.out.2.2; have := hq.1; omega⟩)).wide (fun q hq => ⟨hq.1, Nat.lt_of_lt_of_le hq.2.1 hd4.size, hq.2.2⟩))
          have Y4 : Hid (ExR (fun q => w.heap.size ≤ q ∧ q < w4.heap.size ∧ q ≠ w.heap.size ∧ q ≠ g5) nL w4 y.l (.slice AL mL cL)) := Lib.hid (hr4.wide (fun q hq => ⟨Nat.le_trans D3.out.size hq.1, hq.2, by have := K3.out.lt; have := hq.1; omega, by have := T3.out.lt; have := hq.1; omega⟩))
          clear hp hd4 hi1 hi2 hr4
          go_wp2_with fail
          refine hK.out _ _ S4.out (fun h1 => ?_)
          clear hK K'
          try simp only [Act.put, List.setIfInBounds_toArray, List.set_cons_zero, List.set_cons_succ]
          refine wpAnyH_ready (rs := [2]) (by kernel_rfl) (by simp) ?_
          refine (AllReadyH.cons (o := ⟨some 25, _, _, _, _, _⟩) rfl (fun K' hK => ?_) AllReadyH.nil)
          have tf0 := T4.out.cell 0
          have tf1 := T4.out.cell 1
          have tf2 := T4.out.cell 2
          have tf3 := T4.out.cell 3
          have tf4 := T4.out.cell 4
          simp at tf0 tf1 tf2 tf3 tf4
          go_simp
          refine hK.out _ _ S4.out (fun h2 => ?_)
          clear hK K'
          try simp only [Act.put, List.setIfInBounds_toArray, List.set_cons_zero, List.set_cons_succ]
          clear tf0 tf1 tf2 tf3 tf4
          refine wpAnyH_ready (rs := [7]) (by kernel_rfl) (by simp) ?_
          refine (AllReadyH.cons (o := ⟨some 30, _, _, _, _, _⟩) rfl (fun K' hK => ?_) AllReadyH.nil)
          obtain ⟨w5, hw5⟩ : ∃ q, q = w4.alloc (.cells #[.string x.op, .string x.nm, .int .i64 x.n, .slice A m c, .int .i64 x.a, .string y.op, .string y.nm, .int .i64 y.n, .slice AL mL cL, .int .i64 y.a] 52) := ⟨_, rfl⟩
          have B5 : Hid (Below w4.heap.size w4 w5) := Lib.hid (by rw [hw5]; exact (Below.refl _ _).alloc (Nat.le_refl _) _)
          have N5 : Hid (Blk w5 w4.heap.size 52 #[.string x.op, .string x.nm, .int .i64 x.n, .slice A m c, .int .i64 x.a, .string y.op, .string y.nm, .int .i64 y.n, .slice AL mL cL, .int .i64 y.a]) := Lib.hid (by rw [hw5]; exact Blk.new w4 _ _)
          have P5 := Lib.hid (P4.out.below B5.out)
          have D5 := Lib.hid (D4.out.then_ B5.out)
          have K5 := Lib.hid (K4.out.below B5.out K4.out.lt)
          have T5 := Lib.hid (T4.out.below B5.out T4.out.lt)
          have Q5 := Lib.hid (Q4.out.below B5.out Q4.out.lt)
          have S5 := Lib.hid (HS6.out _ Q5.out)
          have X5 : Hid (ExR (fun q => w.heap.size ≤ q ∧ q < w5.heap.size ∧ q ≠ w.heap.size ∧ q ≠ g5) (n + nL + 1) w5 [x, y] (.slice (some ⟨w4.heap.size, 0, none⟩) 2 2)) := Lib.hid (exr_two N5.out ⟨by have := K4.out.lt; omega, N5.out.lt, by have := K4.out.lt; omega, by have := T4.out.lt; omega⟩ ⟨IX.out.1, IX.out.2, I1.out, I2.out⟩ (((X4.out.below B5.out (fun q hq => hq.2.1)).wide (fun q hq => ⟨hq.1, Nat.lt_of_lt_of_le hq.2.1 B5.out.size, hq.2.2⟩)).le (Nat.le_add_right _ _)) (((Y4.out.below B5.out (fun q hq => hq.2.1)).wide (fun q hq => ⟨hq.1, Nat.lt_of_lt_of_le hq.2.1 B5.out.size, hq.2.2⟩)).le (Nat.le_add_left _ _)))
          go_simp
          rw [← hw5]
          clear hw5
          refine hK.out _ _ S5.out (fun h7 => ?_)
          clear hK K'
          try simp only [Act.put, List.setIfInBounds_toArray, List.set_cons_zero, List.set_cons_succ]
          refine wpAnyH_take (i := 10) (oi := ⟨some 33, _, _, _, _, _⟩) (v := ?_) rfl (by kernel_rfl) (by kernel_rfl) (by kernel_rfl) (fun _ _ _ h => h) (Or.inl ⟨by rfl, ?_⟩) h7 ?_
          rotate_left
          · intro w hSw
            try dsimp only at hSw
            go_simp
            try with_reducible rfl
          try simp only [Act.put, List.setIfInBounds_toArray, List.set_cons_zero, List.set_cons_succ]
          refine wpAnyH_ready (rs := [11]) (by kernel_rfl) (by simp) ?_
          refine (AllReadyH.cons (o := ⟨none, _, _, _, _, _⟩) rfl (fun K' hK => ?_) AllReadyH.nil)
          have t0 := T5.out.cell 0
          have t1 := T5.out.cell 1
          have t2 := T5.out.cell 2
          have t3 := T5.out.cell 3
          have t4 := T5.out.cell 4
          have f0 := T5.out.frozen 0
          have f1 := T5.out.frozen 1
          have f2 := T5.out.frozen 2
          have f3 := T5.out.frozen 3
          have f4 := T5.out.frozen 4
          have fl := T5.out.lt
          simp at t0 t1 t2 t3 t4
          have S6 := Lib.hid (HS6.out _ (((((Q5.out.far (p := ⟨g5, 0, none⟩) HQ.out.1 (.string tx)).far (p := ⟨g5, 1, none⟩) HQ.out.1 (.string ⟨#[]⟩)).far (p := ⟨g5, 2, none⟩) HQ.out.1 (.int .i64 0)).far (p := ⟨g5, 3, none⟩) HQ.out.1 (.slice (some ⟨w4.heap.size, 0, none⟩) 2 2)).far (p := ⟨g5, 4, none⟩) HQ.out.1 (.int .i64 (t.at_ : Int))))
          go_simp
          refine hK.out _ _ S6.out (fun h8 => ?_)
          clear hK K'
          try simp only [Act.put, List.setIfInBounds_toArray, List.set_cons_zero, List.set_cons_succ]
          clear t0 t1 t2 t3 t4 f0 f1 f2 f3 f4 fl
          refine wpAnyH_done (by kernel_rfl) ?_ _
          have FK := five_kept (w := w5) (g := g5) (.string tx) (.string ⟨#[]⟩) (.int .i64 0) (.slice (some ⟨w4.heap.size, 0, none⟩) 2 2) (.int .i64 (t.at_ : Int))
          have P6 := Lib.hid (((((P5.out.far HT.out.2.1 HT.out.2.2.2 (.string tx) (p := ⟨g5, 0, none⟩)).far HT.out.2.1 HT.out.2.2.2 (.string ⟨#[]⟩) (p := ⟨g5, 1, none⟩)).far HT.out.2.1 HT.out.2.2.2 (.int .i64 0) (p := ⟨g5, 2, none⟩)).far HT.out.2.1 HT.out.2.2.2 (.slice (some ⟨w4.heap.size, 0, none⟩) 2 2) (p := ⟨g5, 3, none⟩)).far HT.out.2.1 HT.out.2.2.2 (.int .i64 (t.at_ : Int)) (p := ⟨g5, 4, none⟩))
          have D6 := Lib.hid (((((D5.out.fresh (p := ⟨g5, 0, none⟩) HT.out.2.2.1 (.string tx)).fresh (p := ⟨g5, 1, none⟩) HT.out.2.2.1 (.string ⟨#[]⟩)).fresh (p := ⟨g5, 2, none⟩) HT.out.2.2.1 (.int .i64 0)).fresh (p := ⟨g5, 3, none⟩) HT.out.2.2.1 (.slice (some ⟨w4.heap.size, 0, none⟩) 2 2)).fresh (p := ⟨g5, 4, none⟩) HT.out.2.2.1 (.int .i64 (t.at_ : Int)))
          have K6 : Hid (Blk (((((w5.setCell ⟨g5, 0, none⟩ (.string tx)).setCell ⟨g5, 1, none⟩ (.string ⟨#[]⟩)).setCell ⟨g5, 2, none⟩ (.int .i64 0)).setCell ⟨g5, 3, none⟩ (.slice (some ⟨w4.heap.size, 0, none⟩) 2 2)).setCell ⟨g5, 4, none⟩ (.int .i64 (t.at_ : Int))) w.heap.size 52 #[.string ⟨#[]⟩, .string ⟨#[]⟩, .int .i64 0, .slice none 0 0, .int .i64 0]) := Lib.hid ((FK.1 _ HT.out.1).trans K5.out)
          have T6 : Hid (Blk (((((w5.setCell ⟨g5, 0, none⟩ (.string tx)).setCell ⟨g5, 1, none⟩ (.string ⟨#[]⟩)).setCell ⟨g5, 2, none⟩ (.int .i64 0)).setCell ⟨g5, 3, none⟩ (.slice (some ⟨w4.heap.size, 0, none⟩) 2 2)).setCell ⟨g5, 4, none⟩ (.int .i64 (t.at_ : Int))) g5 52 #[.string tx, .string ⟨#[]⟩, .int .i64 0, .slice (some ⟨w4.heap.size, 0, none⟩) 2 2, .int .i64 (t.at_ : Int)]) := Lib.hid (((((T5.out.set_ 0 _).set_ 1 _).set_ 2 _).set_ 3 _).set_ 4 _)
          have X6 : Hid (ExR (fun q => w.heap.size ≤ q ∧ q < (((((w5.setCell ⟨g5, 0, none⟩ (.string tx)).setCell ⟨g5, 1, none⟩ (.string ⟨#[]⟩)).setCell ⟨g5, 2, none⟩ (.int .i64 0)).setCell ⟨g5, 3, none⟩ (.slice (some ⟨w4.heap.size, 0, none⟩) 2 2)).setCell ⟨g5, 4, none⟩ (.int .i64 (t.at_ : Int))).heap.size ∧ q ≠ w.heap.size ∧ q ≠ g5) (n + nL + 1) (((((w5.setCell ⟨g5, 0, none⟩ (.string tx)).setCell ⟨g5, 1, none⟩ (.string ⟨#[]⟩)).setCell ⟨g5, 2, none⟩ (.int .i64 0)).setCell ⟨g5, 3, none⟩ (.slice (some ⟨w4.heap.size, 0, none⟩) 2 2)).setCell ⟨g5, 4, none⟩ (.int .i64 (t.at_ : Int))) [x, y] (.slice (some ⟨w4.heap.size, 0, none⟩) 2 2)) := Lib.hid ((X5.out.kept (fun q hq => FK.1 q hq.2.2.2)).wide (fun q hq => ⟨hq.1, by rw [FK.2]; exact hq.2.1, hq.2.2⟩))
          clear FK
          obtain ⟨w6, hw6⟩ : ∃ q, ((((w5.setCell ⟨g5, 0, none⟩ (.string tx)).setCell ⟨g5, 1, none⟩ (.string ⟨#[]⟩)).setCell ⟨g5, 2, none⟩ (.int .i64 0)).setCell ⟨g5, 3, none⟩ (.slice (some ⟨w4.heap.size, 0, none⟩) 2 2)).setCell ⟨g5, 4, none⟩ (.int .i64 (t.at_ : Int)) = q := ⟨_, rfl⟩
          rw [hw6] at P6 D6 K6 T6 X6 ⊢
          clear hw6
          by_cases ho3 : o = 3
          · have gi : ((o : Int) == 3) = true := by rw [ho3]; rfl
            have HE3 : Hid (exF len (f + 1) (.parts o) d s = (s4, .mk tx ⟨#[]⟩ 0 [x, y] (t.at_ : Int))) := Lib.hid (by rw [← HR.out, HL.out, if_pos ho3])
            have X7 : Hid (ExR (fun q => w.heap.size ≤ q ∧ q < w6.heap.size ∧ q ≠ w.heap.size) (n + nL + 1) w6 [x, y] (.slice (some ⟨w4.heap.size, 0, none⟩) 2 2)) := Lib.hid (X6.out.wide (fun q hq => ⟨hq.1, hq.2.1, hq.2.2.1⟩))
            clear ho3
            have t0 := T6.out.cell 0
            have t1 := T6.out.cell 1
            have t2 := T6.out.cell 2
            have t3 := T6.out.cell 3
            have t4 := T6.out.cell 4
            simp at t0 t1 t2 t3 t4
            have r0 := K6.out.cell 0
            have r1 := K6.out.cell 1
            have r2 := K6.out.cell 2
            have r3 := K6.out.cell 3
            have r4 := K6.out.cell 4
            have rf0 := K6.out.frozen 0
            have rf1 := K6.out.frozen 1
            have rf2 := K6.out.frozen 2
            have rf3 := K6.out.frozen 3
            have rf4 := K6.out.frozen 4
            have rl := K6.out.lt
            simp at r0 r1 r2 r3 r4
            go_wp2
            have q := ex_box K6.out (.string tx) (.string ⟨#[]⟩) (.int .i64 0) (.slice (some ⟨w4.heap.size, 0, none⟩) 2 2) (.int .i64 (t.at_ : Int))
            have q0 := q.cell 0
            have q1 := q.cell 1
            have q2 := q.cell 2
            have q3 := q.cell 3
            have q4 := q.cell 4
            simp at q0 q1 q2 q3 q4
            have HZ := fin_ex P6.out D6.out (Nat.le_refl _) HG.out.1 HG.out.2.1 X7.out (.string tx) (.string ⟨#[]⟩) (.int .i64 0) (.slice (some ⟨w4.heap.size, 0, none⟩) 2 2) (.int .i64 (t.at_ : Int))
            rw [HE3.out]
            refine bodyPost_ret (v := exV tx ⟨#[]⟩ 0 (.slice (some ⟨w4.heap.size, 0, none⟩) 2 2) (t.at_ : Int)) (by simp [results, Tryz.results71, go_sem, q0, q1, q2, q3, q4]) rfl ⟨_, _, _, _, rfl, HZ.1, HZ.2.1, in64_zero, HAt.out, HZ.2.2⟩
          · have gi : ((o : Int) == 3) = false := by simp; omega
            have HE3 : Hid (exF len g (.loop o (.mk tx ⟨#[]⟩ 0 [x, y] (t.at_ : Int))) d s4 = exF len (f + 1) (.parts o) d s) := Lib.hid (by rw [← HR.out, HL.out, if_neg ho3])
            clear ho3
            go_wp2_with fail
            go_roundg (gk - 1)
            case rel => exact ⟨s4, .mk tx ⟨#[]⟩ 0 [x, y] (t.at_ : Int), _, _, _, _, g, H4.out.1, H4.out.2, P6.out, D6.out, K6.out, T6.out, in64_zero, HAt.out, X6.out, H5.out.1, H5.out.2, HE3.out⟩
            case measure => have := HGk.out; omega
      · have g0 : ((lv : Int) == (o : Int)) = false := by simp; omega
        have HE3 : Hid (exF len (f + 1) (.parts o) d s = (s2, x)) := Lib.hid (by
          rw [← HR.out]
          simp only [exF]
          rw [← HT0.out, if_neg (by rw [← HLv2.out]; exact hlo)])
        clear hlo HIH HF HDk
        go_wp2_with (first
          | (go_at_call 86; have HX := HN.out; (with_reducible refine HX.mono ?_); clear HX; rintro e w6 ⟨rfl, hb⟩; have P6 := Lib.hid (P1.out.below hb); have D6 := Lib.hid (D1.out.then_ hb); have K6 := Lib.hid (K1.out.below hb K1.out.lt); have T6 := Lib.hid (T1.out.below hb T1.out.lt); have X6 := Lib.hid ((X1.out.below hb (fun q hq => hq.2.1)).wide (P' := fun q => w.heap.size ≤ q ∧ q < w6.heap.size ∧ q ≠ w.heap.size) (fun q hq => ⟨hq.1, Nat.lt_of_lt_of_le hq.2.1 hb.size, hq.2.2.1⟩)); have t0 := T6.out.cell 0; have t1 := T6.out.cell 1; have t2 := T6.out.cell 2; have t3 := T6.out.cell 3; have t4 := T6.out.cell 4; simp at t0 t1 t2 t3 t4; have r0 := K6.out.cell 0; have r1 := K6.out.cell 1; have r2 := K6.out.cell 2; have r3 := K6.out.cell 3; have r4 := K6.out.cell 4; have rf0 := K6.out.frozen 0; have rf1 := K6.out.frozen 1; have rf2 := K6.out.frozen 2; have rf3 := K6.out.frozen 3; have rf4 := K6.out.frozen 4; have rl := K6.out.lt; simp at r0 r1 r2 r3 r4; clear hb)
          | (go_at_call 100; (with_reducible refine (HLv.out _).mono ?_); rintro e wz ⟨rfl, rfl⟩))
        have q := ex_box K6.out (.string x.op) (.string x.nm) (.int .i64 x.n) (.slice A m c) (.int .i64 x.a)
        have q0 := q.cell 0
        have q1 := q.cell 1
        have q2 := q.cell 2
        have q3 := q.cell 3
        have q4 := q.cell 4
        simp at q0 q1 q2 q3 q4
        have HZ := fin_ex P6.out D6.out (Nat.le_refl _) HG.out.1 HG.out.2.1 X6.out (.string x.op) (.string x.nm) (.int .i64 x.n) (.slice A m c) (.int .i64 x.a)
        rw [HE3.out]
        refine bodyPost_ret (v := exV x.op x.nm x.n (.slice A m c) x.a) (by simp [results, Tryz.results71, go_sem, q0, q1, q2, q3, q4]) rfl ⟨_, _, _, _, rfl, HZ.1, HZ.2.1, IX.out.1, IX.out.2, HZ.2.2⟩
theorem ex_any (f : Nat) : ∀ g, g ≤ f → PXp B b len M k g ∧ PXs B b len M k g := by
  induction f with
  | zero =>
    intro g hg
    obtain rfl : g = 0 := by omega
    exact ⟨fun d s w _ _ h => by omega, fun o d s w _ h6 _ _ h => by omega⟩
  | succ f ih =>
    intro g hg
    rcases Nat.lt_or_ge g (f + 1) with h | h
    · exact ih g (by omega)
    · obtain rfl : g = f + 1 := by omega
      exact ⟨ppart_step (ih f (Nat.le_refl _)).1 (ih f (Nat.le_refl _)).2, parts_step ih⟩
end
end Go.Proofs.YteaongdlbleehaaGreatDoor
