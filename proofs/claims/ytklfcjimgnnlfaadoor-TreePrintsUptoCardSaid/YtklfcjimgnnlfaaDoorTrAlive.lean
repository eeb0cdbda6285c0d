/- The tree layer: the law's alive. -/
import Derived.Test.YtklfcjimgnnlfaaDoorTrSized
namespace Go.Proofs.YtklfcjimgnnlfaaDoor
open Go.RowKit
section
variable {P : Nat → Prop} {n g : Nat} {w : World} {t : TypeId}
theorem exR_nil : ExR P (n + 1) w [] (.slice none 0 0) := ⟨none, 0, rfl, Nat.le_refl _, by simp, fun i x h => by simp at h⟩
theorem stR_nil : StR P (n + 1) w [] (.slice none 0 0) := ⟨none, 0, rfl, Nat.le_refl _, by simp, fun i x h => by simp at h⟩
theorem exR_one {x : Ex} {L : Value} (h : Blk w g t #[.string x.op, .string x.nm, .int .i64 x.n, L, .int .i64 x.a]) (hg : P g) (h1 : In64 x.n) (h2 : In64 x.a) (hr : ExR P n w x.l L) : ExR P (n + 1) w [x] (.slice (some ⟨g, 0, none⟩) 1 1) := by
  refine ⟨some ⟨g, 0, none⟩, 1, rfl, Nat.le_refl _, by simp, fun i y hy => ?_⟩
  cases i with
  | zero =>
    simp at hy
    subst hy
    exact ⟨g, 0, L, rfl, hg, ⟨h.cell 0, h.cell 1, h.cell 2, h.cell 3, h.cell 4⟩, h1, h2, hr⟩
  | succ i => simp at hy
theorem exR_two {x y : Ex} {L M : Value} (h : Blk w g t #[.string x.op, .string x.nm, .int .i64 x.n, L, .int .i64 x.a, .string y.op, .string y.nm, .int .i64 y.n, M, .int .i64 y.a]) (hg : P g) (h1 : In64 x.n ∧ In64 x.a ∧ In64 y.n ∧ In64 y.a) (hr : ExR P n w x.l L) (hs : ExR P n w y.l M) : ExR P (n + 1) w [x, y] (.slice (some ⟨g, 0, none⟩) 2 2) := by
  refine ⟨some ⟨g, 0, none⟩, 2, rfl, Nat.le_refl _, by simp, fun i z hz => ?_⟩
  match i, hz with
  | 0, hz =>
    simp at hz
    subst hz
    exact ⟨g, 0, L, rfl, hg, ⟨h.cell 0, h.cell 1, h.cell 2, h.cell 3, h.cell 4⟩, h1.1, h1.2.1, hr⟩
  | 1, hz =>
    simp at hz
    subst hz
    exact ⟨g, 0, M, rfl, hg, ⟨h.cell 5, h.cell 6, h.cell 7, h.cell 8, h.cell 9⟩, h1.2.2.1, h1.2.2.2, hs⟩
  | i + 2, hz => simp at hz
theorem stR_one {x : St} {LE LA LB : Value} (h : Blk w g t #[.string x.op, .string x.nm, LE, LA, LB, .int .i64 x.a]) (hg : P g) (h2 : In64 x.a) (he : ExR P n w x.e LE) (hA : StR P n w x.A LA) (hB : StR P n w x.B LB) : StR P (n + 1) w [x] (.slice (some ⟨g, 0, none⟩) 1 1) := by
  refine ⟨some ⟨g, 0, none⟩, 1, rfl, Nat.le_refl _, by simp, fun i y hy => ?_⟩
  cases i with
  | zero =>
    simp at hy
    subst hy
    exact ⟨g, 0, LE, LA, LB, rfl, hg, ⟨h.cell 0, h.cell 1, h.cell 2, h.cell 3, h.cell 4, h.cell 5⟩, h2, he, hA, hB⟩
  | succ i => simp at hy
end
def aX : Ex := .mk ⟨#[110, 97, 109, 101]⟩ ⟨#[120]⟩ 0 [] 0
def aOne : Ex := .mk ⟨#[110, 117, 109]⟩ ⟨#[]⟩ 1 [] 0
def aAt : Ex := .mk ⟨#[97, 116]⟩ ⟨#[97]⟩ 0 [aX] 0
def aNeg : Ex := .mk ⟨#[110, 101, 103]⟩ ⟨#[]⟩ 0 [aX] 0
def aPlus : Ex := .mk ⟨#[43]⟩ ⟨#[]⟩ 0 [aOne, aAt] 0
def aMin : Ex := .mk ⟨#[45]⟩ ⟨#[]⟩ 0 [aNeg, aPlus] 0
def aSt : St := .mk ⟨#[115, 101, 116]⟩ ⟨#[120]⟩ [aMin] [] [] 0
def aPg : Pg := ⟨[], [], [], [aSt]⟩
theorem a_text : form Lib.itoa ⟨#[45]⟩ ⟨#[]⟩ 0 (tL [aNeg, aPlus]) = [40, 45, 120, 41, 32, 45, 32, 40, 49, 32, 43, 32, 97, 91, 120, 93, 41] := by kernel_rfl
theorem a_print : printF Lib.itoa aPg = [109, 97, 105, 110, 32, 123, 10, 32, 32, 120, 32, 61, 32, 40, 45, 120, 41, 32, 45, 32, 40, 49, 32, 43, 32, 97, 91, 120, 93, 41, 59, 10, 125, 10] := by kernel_rfl
theorem a_deep : deepL [aNeg, aPlus] = 3 := by kernel_rfl
theorem a_dep : depB [aSt] = 1 := by kernel_rfl
theorem a_size : szPg aPg = 8 := by kernel_rfl
theorem a_same : sameX ⟨#[45]⟩ ⟨#[]⟩ 0 [aNeg, aPlus] ⟨#[45]⟩ ⟨#[]⟩ 0 [aNeg, aPlus] = true := by kernel_rfl
theorem a_samePg : samePg aPg aPg = true := by kernel_rfl
set_option maxRecDepth 100000 in
set_option maxHeartbeats 12800000 in
theorem alive_any (W : World) (ht : Tabs W) : Calls Tryd.prog 7 #[] W (fun e w' => e = .returned (.bool true) ∧ Below W.heap.size W w') := by
  obtain ⟨V1, hV1⟩ : ∃ V, V = W.alloc (.cells #[.string ⟨#[110, 97, 109, 101]⟩, .string ⟨#[120]⟩, .int .i64 0, .slice none 0 0, .int .i64 0] 52) := ⟨_, rfl⟩
  obtain ⟨V2, hV2⟩ : ∃ V, V = V1.alloc (.cells #[.string ⟨#[110, 117, 109]⟩, .string ⟨#[]⟩, .int .i64 1, .slice none 0 0, .int .i64 0] 52) := ⟨_, rfl⟩
  obtain ⟨V3, hV3⟩ : ∃ V, V = V2.alloc (.cells #[.string ⟨#[110, 97, 109, 101]⟩, .string ⟨#[120]⟩, .int .i64 0, .slice none 0 0, .int .i64 0] 52) := ⟨_, rfl⟩
  obtain ⟨V4, hV4⟩ : ∃ V, V = V3.alloc (.cells #[.string ⟨#[110, 97, 109, 101]⟩, .string ⟨#[120]⟩, .int .i64 0, .slice none 0 0, .int .i64 0] 52) := ⟨_, rfl⟩
  obtain ⟨V5, hV5⟩ : ∃ V, V = V4.alloc (.cells #[.string ⟨#[110, 117, 109]⟩, .string ⟨#[]⟩, .int .i64 1, .slice none 0 0, .int .i64 0, .string ⟨#[97, 116]⟩, .string ⟨#[97]⟩, .int .i64 0, .slice (some ⟨W.heap.size + 1 + 1 + 1, 0, none⟩) 1 1, .int .i64 0] 52) := ⟨_, rfl⟩
  obtain ⟨V6, hV6⟩ : ∃ V, V = V5.alloc (.cells #[.string ⟨#[110, 101, 103]⟩, .string ⟨#[]⟩, .int .i64 0, .slice (some ⟨W.heap.size + 1 + 1, 0, none⟩) 1 1, .int .i64 0, .string ⟨#[43]⟩, .string ⟨#[]⟩, .int .i64 0, .slice (some ⟨W.heap.size + 1 + 1 + 1 + 1, 0, none⟩) 2 2, .int .i64 0] 52) := ⟨_, rfl⟩
  obtain ⟨V7, hV7⟩ : ∃ V, V = V6.alloc (.cells #[.string ⟨#[45]⟩, .string ⟨#[]⟩, .int .i64 0, .slice (some ⟨W.heap.size + 1 + 1 + 1 + 1 + 1, 0, none⟩) 2 2, .int .i64 0] 52) := ⟨_, rfl⟩
  obtain ⟨V8, hV8⟩ : ∃ V, V = V7.alloc (.cells #[.string ⟨#[45]⟩, .string ⟨#[]⟩, .int .i64 0, .slice (some ⟨W.heap.size + 1 + 1 + 1 + 1 + 1, 0, none⟩) 2 2, .int .i64 0] 52) := ⟨_, rfl⟩
  obtain ⟨V9, hV9⟩ : ∃ V, V = V8.alloc (.cells #[.string ⟨#[115, 101, 116]⟩, .string ⟨#[120]⟩, .slice (some ⟨W.heap.size + 1 + 1 + 1 + 1 + 1 + 1 + 1, 0, none⟩) 1 1, .slice none 0 0, .slice none 0 0, .int .i64 0] 60) := ⟨_, rfl⟩
  obtain ⟨V10, hV10⟩ : ∃ V, V = V9.alloc (.cells #[.slice none 0 0, .slice none 0 0, .slice none 0 0, .slice (some ⟨W.heap.size + 1 + 1 + 1 + 1 + 1 + 1 + 1 + 1, 0, none⟩) 1 1] 35) := ⟨_, rfl⟩
  have s1 : V1.heap.size = W.heap.size + 1 := by rw [hV1, World.size_alloc]
  have b1 : Below W.heap.size W V1 := by rw [hV1]; exact (Below.refl _ _).alloc (Nat.le_refl _) _
  have B1 : Below W.heap.size W V1 := b1
  have k0_1 : Blk V1 (W.heap.size) 52 #[.string ⟨#[110, 97, 109, 101]⟩, .string ⟨#[120]⟩, .int .i64 0, .slice none 0 0, .int .i64 0] := by rw [hV1]; exact Blk.new _ _ _
  have s2 : V2.heap.size = W.heap.size + 1 + 1 := by rw [hV2, World.size_alloc, s1]
  have b2 : Below V1.heap.size V1 V2 := by rw [hV2]; exact (Below.refl _ _).alloc (Nat.le_refl _) _
  have B2 : Below W.heap.size W V2 := thru B1 b2
  have k1_2 : Blk V2 (W.heap.size + 1) 52 #[.string ⟨#[110, 117, 109]⟩, .string ⟨#[]⟩, .int .i64 1, .slice none 0 0, .int .i64 0] := by rw [hV2, ← s1]; exact Blk.new _ _ _
  have k0_2 := k0_1.below b2 k0_1.lt
  have s3 : V3.heap.size = W.heap.size + 1 + 1 + 1 := by rw [hV3, World.size_alloc, s2]
  have b3 : Below V2.heap.size V2 V3 := by rw [hV3]; exact (Below.refl _ _).alloc (Nat.le_refl _) _
  have B3 : Below W.heap.size W V3 := thru B2 b3
  have k2_3 : Blk V3 (W.heap.size + 1 + 1) 52 #[.string ⟨#[110, 97, 109, 101]⟩, .string ⟨#[120]⟩, .int .i64 0, .slice none 0 0, .int .i64 0] := by rw [hV3, ← s2]; exact Blk.new _ _ _
  have k0_3 := k0_2.below b3 k0_2.lt
  have k1_3 := k1_2.below b3 k1_2.lt
  have s4 : V4.heap.size = W.heap.size + 1 + 1 + 1 + 1 := by rw [hV4, World.size_alloc, s3]
  have b4 : Below V3.heap.size V3 V4 := by rw [hV4]; exact (Below.refl _ _).alloc (Nat.le_refl _) _
  have B4 : Below W.heap.size W V4 := thru B3 b4
  have k3_4 : Blk V4 (W.heap.size + 1 + 1 + 1) 52 #[.string ⟨#[110, 97, 109, 101]⟩, .string ⟨#[120]⟩, .int .i64 0, .slice none 0 0, .int .i64 0] := by rw [hV4, ← s3]; exact Blk.new _ _ _
  have k0_4 := k0_3.below b4 k0_3.lt
  have k1_4 := k1_3.below b4 k1_3.lt
  have k2_4 := k2_3.below b4 k2_3.lt
  have s5 : V5.heap.size = W.heap.size + 1 + 1 + 1 + 1 + 1 := by rw [hV5, World.size_alloc, s4]
  have b5 : Below V4.heap.size V4 V5 := by rw [hV5]; exact (Below.refl _ _).alloc (Nat.le_refl _) _
  have B5 : Below W.heap.size W V5 := thru B4 b5
  have k4_5 : Blk V5 (W.heap.size + 1 + 1 + 1 + 1) 52 #[.string ⟨#[110, 117, 109]⟩, .string ⟨#[]⟩, .int .i64 1, .slice none 0 0, .int .i64 0, .string ⟨#[97, 116]⟩, .string ⟨#[97]⟩, .int .i64 0, .slice (some ⟨W.heap.size + 1 + 1 + 1, 0, none⟩) 1 1, .int .i64 0] := by rw [hV5, ← s4]; exact Blk.new _ _ _
  have k0_5 := k0_4.below b5 k0_4.lt
  have k1_5 := k1_4.below b5 k1_4.lt
  have k2_5 := k2_4.below b5 k2_4.lt
  have k3_5 := k3_4.below b5 k3_4.lt
  have s6 : V6.heap.size = W.heap.size + 1 + 1 + 1 + 1 + 1 + 1 := by rw [hV6, World.size_alloc, s5]
  have b6 : Below V5.heap.size V5 V6 := by rw [hV6]; exact (Below.refl _ _).alloc (Nat.le_refl _) _
  have B6 : Below W.heap.size W V6 := thru B5 b6
  have k5_6 : Blk V6 (W.heap.size + 1 + 1 + 1 + 1 + 1) 52 #[.string ⟨#[110, 101, 103]⟩, .string ⟨#[]⟩, .int .i64 0, .slice (some ⟨W.heap.size + 1 + 1, 0, none⟩) 1 1, .int .i64 0, .string ⟨#[43]⟩, .string ⟨#[]⟩, .int .i64 0, .slice (some ⟨W.heap.size + 1 + 1 + 1 + 1, 0, none⟩) 2 2, .int .i64 0] := by rw [hV6, ← s5]; exact Blk.new _ _ _
  have k0_6 := k0_5.below b6 k0_5.lt
  have k1_6 := k1_5.below b6 k1_5.lt
  have k2_6 := k2_5.below b6 k2_5.lt
  have k3_6 := k3_5.below b6 k3_5.lt
  have k4_6 := k4_5.below b6 k4_5.lt
  have s7 : V7.heap.size = W.heap.size + 1 + 1 + 1 + 1 + 1 + 1 + 1 := by rw [hV7, World.size_alloc, s6]
  have b7 : Below V6.heap.size V6 V7 := by rw [hV7]; exact (Below.refl _ _).alloc (Nat.le_refl _) _
  have B7 : Below W.heap.size W V7 := thru B6 b7
  have k6_7 : Blk V7 (W.heap.size + 1 + 1 + 1 + 1 + 1 + 1) 52 #[.string ⟨#[45]⟩, .string ⟨#[]⟩, .int .i64 0, .slice (some ⟨W.heap.size + 1 + 1 + 1 + 1 + 1, 0, none⟩) 2 2, .int .i64 0] := by rw [hV7, ← s6]; exact Blk.new _ _ _
  have k0_7 := k0_6.below b7 k0_6.lt
  have k1_7 := k1_6.below b7 k1_6.lt
  have k2_7 := k2_6.below b7 k2_6.lt
  have k3_7 := k3_6.below b7 k3_6.lt
  have k4_7 := k4_6.below b7 k4_6.lt
  have k5_7 := k5_6.below b7 k5_6.lt
  have s8 : V8.heap.size = W.heap.size + 1 + 1 + 1 + 1 + 1 + 1 + 1 + 1 := by rw [hV8, World.size_alloc, s7]
  have b8 : Below V7.heap.size V7 V8 := by rw [hV8]; exact (Below.refl _ _).alloc (Nat.le_refl _) _
  have B8 : Below W.heap.size W V8 := thru B7 b8
  have k7_8 : Blk V8 (W.heap.size + 1 + 1 + 1 + 1 + 1 + 1 + 1) 52 #[.string ⟨#[45]⟩, .string ⟨#[]⟩, .int .i64 0, .slice (some ⟨W.heap.size + 1 + 1 + 1 + 1 + 1, 0, none⟩) 2 2, .int .i64 0] := by rw [hV8, ← s7]; exact Blk.new _ _ _
  have k0_8 := k0_7.below b8 k0_7.lt
  have k1_8 := k1_7.below b8 k1_7.lt
  have k2_8 := k2_7.below b8 k2_7.lt
  have k3_8 := k3_7.below b8 k3_7.lt
  have k4_8 := k4_7.below b8 k4_7.lt
  have k5_8 := k5_7.below b8 k5_7.lt
  have k6_8 := k6_7.below b8 k6_7.lt
  have s9 : V9.heap.size = W.heap.size + 1 + 1 + 1 + 1 + 1 + 1 + 1 + 1 + 1 := by rw [hV9, World.size_alloc, s8]
  have b9 : Below V8.heap.size V8 V9 := by rw [hV9]; exact (Below.refl _ _).alloc (Nat.le_refl _) _
  have B9 : Below W.heap.size W V9 := thru B8 b9
  have k8_9 : Blk V9 (W.heap.size + 1 + 1 + 1 + 1 + 1 + 1 + 1 + 1) 60 #[.string ⟨#[115, 101, 116]⟩, .string ⟨#[120]⟩, .slice (some ⟨W.heap.size + 1 + 1 + 1 + 1 + 1 + 1 + 1, 0, none⟩) 1 1, .slice none 0 0, .slice none 0 0, .int .i64 0] := by rw [hV9, ← s8]; exact Blk.new _ _ _
  have k0_9 := k0_8.below b9 k0_8.lt
  have k1_9 := k1_8.below b9 k1_8.lt
  have k2_9 := k2_8.below b9 k2_8.lt
  have k3_9 := k3_8.below b9 k3_8.lt
  have k4_9 := k4_8.below b9 k4_8.lt
  have k5_9 := k5_8.below b9 k5_8.lt
  have k6_9 := k6_8.below b9 k6_8.lt
  have k7_9 := k7_8.below b9 k7_8.lt
  have s10 : V10.heap.size = W.heap.size + 1 + 1 + 1 + 1 + 1 + 1 + 1 + 1 + 1 + 1 := by rw [hV10, World.size_alloc, s9]
  have b10 : Below V9.heap.size V9 V10 := by rw [hV10]; exact (Below.refl _ _).alloc (Nat.le_refl _) _
  have B10 : Below W.heap.size W V10 := thru B9 b10
  have k9_10 : Blk V10 (W.heap.size + 1 + 1 + 1 + 1 + 1 + 1 + 1 + 1 + 1) 35 #[.slice none 0 0, .slice none 0 0, .slice none 0 0, .slice (some ⟨W.heap.size + 1 + 1 + 1 + 1 + 1 + 1 + 1 + 1, 0, none⟩) 1 1] := by rw [hV10, ← s9]; exact Blk.new _ _ _
  have k0_10 := k0_9.below b10 k0_9.lt
  have k1_10 := k1_9.below b10 k1_9.lt
  have k2_10 := k2_9.below b10 k2_9.lt
  have k3_10 := k3_9.below b10 k3_9.lt
  have k4_10 := k4_9.below b10 k4_9.lt
  have k5_10 := k5_9.below b10 k5_9.lt
  have k6_10 := k6_9.below b10 k6_9.lt
  have k7_10 := k7_9.below b10 k7_9.lt
  have k8_10 := k8_9.below b10 k8_9.lt
  have HP : ∀ b, (fun b => b < V10.heap.size) b → b < V10.heap.size := fun b h => h
  have i0 : In64 0 := by unfold In64; omega
  have i1 : In64 1 := by unfold In64; omega
  have r2 : ExR (fun b => b < V10.heap.size) 3 V10 [aX] (.slice (some ⟨W.heap.size + 1 + 1, 0, none⟩) 1 1) := exR_one (x := aX) k2_10 k2_10.lt i0 i0 exR_nil
  have r3 : ExR (fun b => b < V10.heap.size) 2 V10 [aX] (.slice (some ⟨W.heap.size + 1 + 1 + 1, 0, none⟩) 1 1) := exR_one (x := aX) k3_10 k3_10.lt i0 i0 exR_nil
  have r4 : ExR (fun b => b < V10.heap.size) 3 V10 [aOne, aAt] (.slice (some ⟨W.heap.size + 1 + 1 + 1 + 1, 0, none⟩) 2 2) := exR_two (x := aOne) (y := aAt) k4_10 k4_10.lt ⟨i1, i0, i0, i0⟩ exR_nil r3
  have r5 : ExR (fun b => b < V10.heap.size) 4 V10 [aNeg, aPlus] (.slice (some ⟨W.heap.size + 1 + 1 + 1 + 1 + 1, 0, none⟩) 2 2) := exR_two (x := aNeg) (y := aPlus) k5_10 k5_10.lt ⟨i0, i0, i0, i0⟩ r2 r4
  have r7 : ExR (fun b => b < V10.heap.size) 5 V10 [aMin] (.slice (some ⟨W.heap.size + 1 + 1 + 1 + 1 + 1 + 1 + 1, 0, none⟩) 1 1) := exR_one (x := aMin) k7_10 k7_10.lt i0 i0 r5
  have r8 : StR (fun b => b < V10.heap.size) 6 V10 [aSt] (.slice (some ⟨W.heap.size + 1 + 1 + 1 + 1 + 1 + 1 + 1 + 1, 0, none⟩) 1 1) := stR_one (x := aSt) k8_10 k8_10.lt i0 r7 stR_nil stR_nil
  have rp : PgR (fun b => b < V10.heap.size) 6 V10 aPg (.slice none 0 0) (.slice none 0 0) (.slice none 0 0) (.slice (some ⟨W.heap.size + 1 + 1 + 1 + 1 + 1 + 1 + 1 + 1, 0, none⟩) 1 1) := ⟨⟨none, 0, rfl, Nat.le_refl _, by simp [aPg], fun i x h => by simp [aPg] at h⟩, ⟨none, 0, rfl, Nat.le_refl _, by simp [aPg], fun i x h => by simp [aPg] at h⟩, ⟨none, 0, rfl, Nat.le_refl _, by simp [aPg], fun i x h => by simp [aPg] at h⟩, r8⟩
  have HT := Lib.hid (ht.stays B10)
  have up : ∀ w', Below V10.heap.size V10 w' → ∀ b, b < V10.heap.size → b < w'.heap.size := fun w' hb b h => Nat.lt_of_lt_of_le h hb.size
  have H1 : Hid (∀ w', Below V10.heap.size V10 w' → Calls Tryd.prog 22 #[.agg #[.string ⟨#[45]⟩, .string ⟨#[]⟩, .int .i64 0, .slice (some ⟨W.heap.size + 1 + 1 + 1 + 1 + 1, 0, none⟩) 2 2, .int .i64 0]] w' fun e w'' => e = .returned (.string ⟨#[40, 45, 120, 41, 32, 45, 32, 40, 49, 32, 43, 32, 97, 91, 120, 93, 41]⟩) ∧ Below w'.heap.size w' w'') := Lib.hid fun w' hb => by
    have q := text_any 4 [aNeg, aPlus] ⟨#[45]⟩ ⟨#[]⟩ 0 0 _ _ w' (r5.below hb HP) (up w' hb) (HT.out.stays hb) i0 (by rw [a_text]; decide)
    rw [a_text] at q
    exact q
  have H2 : Hid (∀ w', Below V10.heap.size V10 w' → Calls Tryd.prog 23 #[.agg #[.string ⟨#[45]⟩, .string ⟨#[]⟩, .int .i64 0, .slice (some ⟨W.heap.size + 1 + 1 + 1 + 1 + 1, 0, none⟩) 2 2, .int .i64 0]] w' fun e w'' => e = .returned (.int .i64 4) ∧ Below w'.heap.size w' w'') := Lib.hid fun w' hb => by
    have q := deep_any 4 [aNeg, aPlus] ⟨#[45]⟩ ⟨#[]⟩ 0 0 _ _ w' (r5.below hb HP) (up w' hb) (by rw [a_deep]; decide)
    rw [a_deep] at q
    exact q
  have H3 : Hid (∀ w', Below V10.heap.size V10 w' → Calls Tryd.prog 9 #[.slice (some ⟨W.heap.size + 1 + 1 + 1 + 1 + 1 + 1 + 1 + 1, 0, none⟩) 1 1] w' fun e w'' => e = .returned (.int .i64 1) ∧ Below w'.heap.size w' w'') := Lib.hid fun w' hb => by
    have q := depth_any 6 [aSt] _ _ w' (r8.below hb HP) (up w' hb) (by rw [a_dep]; decide)
    rw [a_dep] at q
    exact q
  have H4 : Hid (∀ w', Below V10.heap.size V10 w' → Calls Tryd.prog 11 #[.agg #[.slice none 0 0, .slice none 0 0, .slice none 0 0, .slice (some ⟨W.heap.size + 1 + 1 + 1 + 1 + 1 + 1 + 1 + 1, 0, none⟩) 1 1]] w' fun e w'' => e = .returned (.int .i64 8) ∧ Below w'.heap.size w' w'') := Lib.hid fun w' hb => by
    have q := sized_any 6 aPg _ _ _ _ _ w' (rp.below hb HP) (up w' hb)
    rw [a_size, W64_len (by decide)] at q
    exact q
  have H5 : Hid (∀ w', Below V10.heap.size V10 w' → Calls Tryd.prog 16 #[.agg #[.slice none 0 0, .slice none 0 0, .slice none 0 0, .slice (some ⟨W.heap.size + 1 + 1 + 1 + 1 + 1 + 1 + 1 + 1, 0, none⟩) 1 1], .agg #[.slice none 0 0, .slice none 0 0, .slice none 0 0, .slice (some ⟨W.heap.size + 1 + 1 + 1 + 1 + 1 + 1 + 1 + 1, 0, none⟩) 1 1]] w' fun e w'' => e = .returned (.bool true) ∧ Below w'.heap.size w' w'') := Lib.hid fun w' hb => by
    have q := same_any 6 aPg aPg _ _ _ _ _ _ _ _ _ w' (rp.below hb HP) (rp.below hb HP) (up w' hb)
    rw [a_samePg] at q
    exact q
  have H6 : Hid (∀ w', Below V10.heap.size V10 w' → Calls Tryd.prog 24 #[.agg #[.string ⟨#[45]⟩, .string ⟨#[]⟩, .int .i64 0, .slice (some ⟨W.heap.size + 1 + 1 + 1 + 1 + 1, 0, none⟩) 2 2, .int .i64 0], .agg #[.string ⟨#[45]⟩, .string ⟨#[]⟩, .int .i64 0, .slice (some ⟨W.heap.size + 1 + 1 + 1 + 1 + 1, 0, none⟩) 2 2, .int .i64 0]] w' fun e w'' => e = .returned (.bool true) ∧ Below w'.heap.size w' w'') := Lib.hid fun w' hb => by
    have q := exEq_any 4 [aNeg, aPlus] [aNeg, aPlus] ⟨#[45]⟩ ⟨#[]⟩ 0 0 ⟨#[45]⟩ ⟨#[]⟩ 0 0 _ _ _ w' (r5.below hb HP) (r5.below hb HP) (up w' hb)
    rw [a_same] at q
    exact q
  have H7 : Hid (∀ w', Below V10.heap.size V10 w' → Calls Tryd.prog 13 #[.agg #[.slice none 0 0, .slice none 0 0, .slice none 0 0, .slice (some ⟨W.heap.size + 1 + 1 + 1 + 1 + 1 + 1 + 1 + 1, 0, none⟩) 1 1]] w' fun e w'' => e = .returned (.string ⟨#[109, 97, 105, 110, 32, 123, 10, 32, 32, 120, 32, 61, 32, 40, 45, 120, 41, 32, 45, 32, 40, 49, 32, 43, 32, 97, 91, 120, 93, 41, 59, 10, 125, 10]⟩) ∧ Below w'.heap.size w' w'') := Lib.hid fun w' hb => by
    have q := print_any 6 aPg _ _ _ _ _ w' (rp.below hb HP) (up w' hb) (HT.out.stays hb) ⟨by show depB [aSt] ≤ _; rw [a_dep]; decide, fun q hq => by simp [aPg] at hq⟩ (by rw [a_print]; decide)
    rw [a_print] at q
    exact q
  have HC : Hid (∀ w', Below V10.heap.size V10 w' → (w'.cell? ⟨W.heap.size + 1 + 1 + 1 + 1 + 1 + 1, 0, none⟩ = some (.string ⟨#[45]⟩) ∧ w'.cell? ⟨W.heap.size + 1 + 1 + 1 + 1 + 1 + 1, 1, none⟩ = some (.string ⟨#[]⟩) ∧ w'.cell? ⟨W.heap.size + 1 + 1 + 1 + 1 + 1 + 1, 2, none⟩ = some (.int .i64 0) ∧ w'.cell? ⟨W.heap.size + 1 + 1 + 1 + 1 + 1 + 1, 3, none⟩ = some (.slice (some ⟨W.heap.size + 1 + 1 + 1 + 1 + 1, 0, none⟩) 2 2) ∧ w'.cell? ⟨W.heap.size + 1 + 1 + 1 + 1 + 1 + 1, 4, none⟩ = some (.int .i64 0)) ∧ w'.cell? ⟨W.heap.size + 1 + 1 + 1 + 1 + 1 + 1 + 1 + 1 + 1, 0, none⟩ = some (.slice none 0 0) ∧ w'.cell? ⟨W.heap.size + 1 + 1 + 1 + 1 + 1 + 1 + 1 + 1 + 1, 1, none⟩ = some (.slice none 0 0) ∧ w'.cell? ⟨W.heap.size + 1 + 1 + 1 + 1 + 1 + 1 + 1 + 1 + 1, 2, none⟩ = some (.slice none 0 0) ∧ w'.cell? ⟨W.heap.size + 1 + 1 + 1 + 1 + 1 + 1 + 1 + 1 + 1, 3, none⟩ = some (.slice (some ⟨W.heap.size + 1 + 1 + 1 + 1 + 1 + 1 + 1 + 1, 0, none⟩) 1 1)) := Lib.hid fun w' hb => by
    have q6 := k6_10.below hb k6_10.lt
    have q9 := k9_10.below hb k9_10.lt
    exact ⟨⟨q6.cell 0, q6.cell 1, q6.cell 2, q6.cell 3, q6.cell 4⟩, q9.cell 0, q9.cell 1, q9.cell 2, q9.cell 3⟩
  have BN := Lib.hid B10
  have B0 := Lib.hid (Below.refl V10.heap.size V10)
  obtain ⟨⟨x0, x1, x2, x3, x4⟩, y0, y1, y2, y3⟩ := HC.out _ B0.out
  have G1 := Lib.hid hV1
  have G2 := Lib.hid hV2
  have G3 := Lib.hid hV3
  have G4 := Lib.hid hV4
  have G5 := Lib.hid hV5
  have G6 := Lib.hid hV6
  have G7 := Lib.hid hV7
  have G8 := Lib.hid hV8
  have G9 := Lib.hid hV9
  have G10 := Lib.hid hV10
  clear HP i0 i1 r2 r3 r4 r5 r7 r8 rp up hV1 s1 b1 B1 hV2 s2 b2 B2 hV3 s3 b3 B3 hV4 s4 b4 B4 hV5 s5 b5 B5 hV6 s6 b6 B6 hV7 s7 b7 B7 hV8 s8 b8 B8 hV9 s9 b9 B9 hV10 s10 b10 B10 k0_1 k0_2 k1_2 k0_3 k1_3 k2_3 k0_4 k1_4 k2_4 k3_4 k0_5 k1_5 k2_5 k3_5 k4_5 k0_6 k1_6 k2_6 k3_6 k4_6 k5_6 k0_7 k1_7 k2_7 k3_7 k4_7 k5_7 k6_7 k0_8 k1_8 k2_8 k3_8 k4_8 k5_8 k6_8 k7_8 k0_9 k1_9 k2_9 k3_9 k4_9 k5_9 k6_9 k7_9 k8_9 k0_10 k1_10 k2_10 k3_10 k4_10 k5_10 k6_10 k7_10 k8_10 k9_10
  go_enter Tryd.func7, Tryd.ntmps7
  go_upto_region 5 with fail
  rw [← G1.out, ← G2.out, ← G3.out, ← G4.out, ← G5.out, ← G6.out, ← G7.out, ← G8.out, ← G9.out, ← G10.out]
  go_wp2_with (first
    | (go_at_call 22; have HX := H1.out _ B0.out; (with_reducible refine HX.mono ?_); clear HX; rintro e w1 ⟨rfl, hb⟩; have C1 := Lib.hid (thru B0.out hb); clear hb; obtain ⟨⟨x0, x1, x2, x3, x4⟩, y0, y1, y2, y3⟩ := HC.out _ C1.out)
    | (go_at_call 23; have HX := H2.out _ C1.out; (with_reducible refine HX.mono ?_); clear HX; rintro e w2 ⟨rfl, hb⟩; have C2 := Lib.hid (thru C1.out hb); clear hb; obtain ⟨⟨x0, x1, x2, x3, x4⟩, y0, y1, y2, y3⟩ := HC.out _ C2.out)
    | (go_at_call 9; have HX := H3.out _ C2.out; (with_reducible refine HX.mono ?_); clear HX; rintro e w3 ⟨rfl, hb⟩; have C3 := Lib.hid (thru C2.out hb); clear hb; obtain ⟨⟨x0, x1, x2, x3, x4⟩, y0, y1, y2, y3⟩ := HC.out _ C3.out)
    | (go_at_call 11; have HX := H4.out _ C3.out; (with_reducible refine HX.mono ?_); clear HX; rintro e w4 ⟨rfl, hb⟩; have C4 := Lib.hid (thru C3.out hb); clear hb; obtain ⟨⟨x0, x1, x2, x3, x4⟩, y0, y1, y2, y3⟩ := HC.out _ C4.out)
    | (go_at_call 16; have HX := H5.out _ C4.out; (with_reducible refine HX.mono ?_); clear HX; rintro e w5 ⟨rfl, hb⟩; have C5 := Lib.hid (thru C4.out hb); clear hb; obtain ⟨⟨x0, x1, x2, x3, x4⟩, y0, y1, y2, y3⟩ := HC.out _ C5.out)
    | (go_at_call 24; have HX := H6.out _ C5.out; (with_reducible refine HX.mono ?_); clear HX; rintro e w6 ⟨rfl, hb⟩; have C6 := Lib.hid (thru C5.out hb); clear hb; obtain ⟨⟨x0, x1, x2, x3, x4⟩, y0, y1, y2, y3⟩ := HC.out _ C6.out)
    | (go_at_call 13; have HX := H7.out _ C6.out; (with_reducible refine HX.mono ?_); clear HX; rintro e w7 ⟨rfl, hb⟩; have C7 := Lib.hid (thru C6.out hb); clear hb; obtain ⟨⟨x0, x1, x2, x3, x4⟩, y0, y1, y2, y3⟩ := HC.out _ C7.out))
  go_ret
  exact ⟨rfl, thru BN.out C7.out⟩
end Go.Proofs.YtklfcjimgnnlfaaDoor
