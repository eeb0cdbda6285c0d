/- Put together of: PsAliveM, PsAlive. -/
import Derived.Test.YteaongdlbleehaaGreatDoorGPsMath
import Derived.Test.YteaongdlbleehaaGreatDoorTrPrint
import Derived.Test.YteaongdlbleehaaGreatDoorGPsReadW
/- The parse layer: what the law's alive comes to. -/
namespace Go.Proofs.YteaongdlbleehaaGreatDoor
set_option maxRecDepth 100000
theorem pair_eta {α β : Type} {x : α × β} {b : β} (h : x.2 = b) : x = (x.1, b) := by rw [← h]
theorem a13_one : (parseT [118, 97, 114, 32, 120, 58, 32, 105, 110, 116, 59, 32, 109, 97, 105, 110, 32, 123, 32, 120, 32, 61, 32, 49, 32, 45, 32, 50, 32, 45, 32, 120, 59, 32, 125]).2 = (35, 0) := by kernel_rfl
theorem a13_two : parseT [109, 97, 105, 110, 32, 123, 32, 120, 32, 61, 32, 49, 32, 43, 32, 59, 32, 125] = (pg0, 15, 130) := by kernel_rfl
theorem a13_three : (exprT [33, 40, 97, 91, 49, 93, 32, 60, 61, 32, 45, 98, 41, 32, 38, 38, 32, 99]).2 = (18, 0) := by kernel_rfl
theorem a13_print : printF Lib.itoa (parseT [118, 97, 114, 32, 120, 58, 32, 105, 110, 116, 59, 32, 109, 97, 105, 110, 32, 123, 32, 120, 32, 61, 32, 49, 32, 45, 32, 50, 32, 45, 32, 120, 59, 32, 125]).1 = [118, 97, 114, 32, 120, 58, 32, 105, 110, 116, 59, 10, 109, 97, 105, 110, 32, 123, 10, 32, 32, 120, 32, 61, 32, 40, 49, 32, 45, 32, 50, 41, 32, 45, 32, 120, 59, 10, 125, 10] := by kernel_rfl
theorem a13_text : form Lib.itoa (exprT [33, 40, 97, 91, 49, 93, 32, 60, 61, 32, 45, 98, 41, 32, 38, 38, 32, 99]).1.op (exprT [33, 40, 97, 91, 49, 93, 32, 60, 61, 32, 45, 98, 41, 32, 38, 38, 32, 99]).1.nm (exprT [33, 40, 97, 91, 49, 93, 32, 60, 61, 32, 45, 98, 41, 32, 38, 38, 32, 99]).1.n (tL (exprT [33, 40, 97, 91, 49, 93, 32, 60, 61, 32, 45, 98, 41, 32, 38, 38, 32, 99]).1.l) = [40, 33, 40, 97, 91, 49, 93, 32, 60, 61, 32, 40, 45, 98, 41, 41, 41, 32, 38, 38, 32, 99] := by kernel_rfl
theorem a13_dep : depB (parseT [118, 97, 114, 32, 120, 58, 32, 105, 110, 116, 59, 32, 109, 97, 105, 110, 32, 123, 32, 120, 32, 61, 32, 49, 32, 45, 32, 50, 32, 45, 32, 120, 59, 32, 125]).1.main = 1 ∧ (parseT [118, 97, 114, 32, 120, 58, 32, 105, 110, 116, 59, 32, 109, 97, 105, 110, 32, 123, 32, 120, 32, 61, 32, 49, 32, 45, 32, 50, 32, 45, 32, 120, 59, 32, 125]).1.procs = [] := ⟨by kernel_rfl, by kernel_rfl⟩
end Go.Proofs.YteaongdlbleehaaGreatDoor

/- The parse layer: the law's alive. -/
namespace Go.Proofs.YteaongdlbleehaaGreatDoor
open Go.RowKit
section
variable {B b len k n : Nat} {M : Value} {s : PS} {w : World}
set_option maxHeartbeats 6400000 in
set_option maxRecDepth 100000 in
theorem alive13_any (W : World) (ht : Tabs W) : Calls Tryz.prog 6 #[] W (fun e w' => e = .returned (.bool true) ∧ Below W.heap.size W w') := by
  obtain ⟨p1, hp1⟩ : ∃ p, p = (parseT [118, 97, 114, 32, 120, 58, 32, 105, 110, 116, 59, 32, 109, 97, 105, 110, 32, 123, 32, 120, 32, 61, 32, 49, 32, 45, 32, 50, 32, 45, 32, 120, 59, 32, 125]).1 := ⟨_, rfl⟩
  obtain ⟨x3, hx3⟩ : ∃ x, x = (exprT [33, 40, 97, 91, 49, 93, 32, 60, 61, 32, 45, 98, 41, 32, 38, 38, 32, 99]).1 := ⟨_, rfl⟩
  have e1 := pair_eta a13_one
  have e3 := pair_eta a13_three
  have hpr := a13_print
  have htx := a13_text
  have hdp := a13_dep
  rw [← hp1] at hpr hdp e1
  rw [← hx3] at htx e3
  have HP1 : Hid (∀ w, Calls Tryz.prog 7 #[.string ⟨#[118, 97, 114, 32, 120, 58, 32, 105, 110, 116, 59, 32, 109, 97, 105, 110, 32, 123, 32, 120, 32, 61, 32, 49, 32, 45, 32, 50, 32, 45, 32, 120, 59, 32, 125]⟩] w (fun e w' => ∃ n vE vV vP vM, e = .returned (.tuple #[pgV vE vV vP vM, .int .i64 35, .int .i64 0]) ∧ Below w.heap.size w w' ∧ PgR (fun q => w.heap.size ≤ q ∧ q < w'.heap.size) n w' p1 vE vV vP vM)) := Lib.hid fun w => by
    have := Parse_any ⟨#[118, 97, 114, 32, 120, 58, 32, 105, 110, 116, 59, 32, 109, 97, 105, 110, 32, 123, 32, 120, 32, 61, 32, 49, 32, 45, 32, 50, 32, 45, 32, 120, 59, 32, 125]⟩ w
    unfold RetRP at this
    rw [show (⟨#[118, 97, 114, 32, 120, 58, 32, 105, 110, 116, 59, 32, 109, 97, 105, 110, 32, 123, 32, 120, 32, 61, 32, 49, 32, 45, 32, 50, 32, 45, 32, 120, 59, 32, 125]⟩ : ByteArray).data.toList = [118, 97, 114, 32, 120, 58, 32, 105, 110, 116, 59, 32, 109, 97, 105, 110, 32, 123, 32, 120, 32, 61, 32, 49, 32, 45, 32, 50, 32, 45, 32, 120, 59, 32, 125] from rfl, e1] at this
    exact this
  have HP2 : Hid (∀ w, Calls Tryz.prog 7 #[.string ⟨#[109, 97, 105, 110, 32, 123, 32, 120, 32, 61, 32, 49, 32, 43, 32, 59, 32, 125]⟩] w (fun e w' => ∃ n vE vV vP vM, e = .returned (.tuple #[pgV vE vV vP vM, .int .i64 15, .int .i64 130]) ∧ Below w.heap.size w w' ∧ PgR (fun q => w.heap.size ≤ q ∧ q < w'.heap.size) n w' pg0 vE vV vP vM)) := Lib.hid fun w => by
    have := Parse_any ⟨#[109, 97, 105, 110, 32, 123, 32, 120, 32, 61, 32, 49, 32, 43, 32, 59, 32, 125]⟩ w
    unfold RetRP at this
    rw [show (⟨#[109, 97, 105, 110, 32, 123, 32, 120, 32, 61, 32, 49, 32, 43, 32, 59, 32, 125]⟩ : ByteArray).data.toList = [109, 97, 105, 110, 32, 123, 32, 120, 32, 61, 32, 49, 32, 43, 32, 59, 32, 125] from rfl, a13_two] at this
    exact this
  have HP3 : Hid (∀ w, Calls Tryz.prog 16 #[.string ⟨#[33, 40, 97, 91, 49, 93, 32, 60, 61, 32, 45, 98, 41, 32, 38, 38, 32, 99]⟩] w (fun e w' => ∃ n A m c, e = .returned (.tuple #[exV x3.op x3.nm x3.n (.slice A m c) x3.a, .int .i64 18, .int .i64 0]) ∧ Below w.heap.size w w' ∧ In64 x3.n ∧ In64 x3.a ∧ ExR (fun q => w.heap.size ≤ q ∧ q < w'.heap.size) n w' x3.l (.slice A m c))) := Lib.hid fun w => by
    have := Expr_any ⟨#[33, 40, 97, 91, 49, 93, 32, 60, 61, 32, 45, 98, 41, 32, 38, 38, 32, 99]⟩ w
    unfold RetRE at this
    rw [show (⟨#[33, 40, 97, 91, 49, 93, 32, 60, 61, 32, 45, 98, 41, 32, 38, 38, 32, 99]⟩ : ByteArray).data.toList = [33, 40, 97, 91, 49, 93, 32, 60, 61, 32, 45, 98, 41, 32, 38, 38, 32, 99] from rfl, e3] at this
    exact this
  have HPr : Hid (∀ (n : Nat) (P : Nat → Prop) (vE vV vP vM : Value) w, PgR P n w p1 vE vV vP vM → (∀ q, P q → q < w.heap.size) → Tabs w → Calls Tryz.prog 17 #[pgV vE vV vP vM] w (fun e w' => e = .returned (.string ⟨#[118, 97, 114, 32, 120, 58, 32, 105, 110, 116, 59, 10, 109, 97, 105, 110, 32, 123, 10, 32, 32, 120, 32, 61, 32, 40, 49, 32, 45, 32, 50, 41, 32, 45, 32, 120, 59, 10, 125, 10]⟩) ∧ Below w.heap.size w w')) := Lib.hid fun n P vE vV vP vM w h hP ht => by
    have := print_any n p1 vE vV vP vM P w h hP ht (by rw [hdp.1, hdp.2]; exact ⟨by decide, fun q hq => by cases hq⟩) (by rw [hpr]; decide)
    rw [hpr] at this
    exact this
  have HTx : Hid (∀ (n : Nat) (P : Nat → Prop) (v : Value) w, ExR P n w x3.l v → (∀ q, P q → q < w.heap.size) → Tabs w → In64 x3.n → Calls Tryz.prog 18 #[exV x3.op x3.nm x3.n v x3.a] w (fun e w' => e = .returned (.string ⟨#[40, 33, 40, 97, 91, 49, 93, 32, 60, 61, 32, 40, 45, 98, 41, 41, 41, 32, 38, 38, 32, 99]⟩) ∧ Below w.heap.size w w')) := Lib.hid fun n P v w h hP ht hk => by
    have := text_any n x3.l x3.op x3.nm x3.n x3.a v P w h hP ht hk (by rw [htx]; decide)
    rw [htx] at this
    exact this
  have HR1 : Hid (∀ w, Calls Tryz.prog 19 #[.string ⟨#[105, 102]⟩] w (fun e w' => e = .returned (.bool true) ∧ w = w')) := Lib.hid fun w => reserved_any [105, 102] w
  have HR2 : Hid (∀ w, Calls Tryz.prog 19 #[.string ⟨#[120]⟩] w (fun e w' => e = .returned (.bool false) ∧ w = w')) := Lib.hid fun w => reserved_any [120] w
  have HT := Lib.hid ht
  clear hp1 hx3 e1 e3 hpr htx hdp ht
  go_enter Tryz.func6, Tryz.ntmps6
  go_upto_region 2 with (go_at_call 7; have HY := HP1.out W; (with_reducible refine HY.mono ?_); clear HY; rintro e w1 ⟨n1, vE, vV, vP, vM, rfl, hb, hx1⟩; obtain ⟨AE1, cE1, rfl, -⟩ := hx1.en.slice; obtain ⟨AV1, cV1, rfl, -⟩ := hx1.va.slice; obtain ⟨AP1, cP1, rfl, -⟩ := hx1.pr.slice; obtain ⟨AM1, mM1, cM1, rfl⟩ := str_form hx1.mn; have X1 := Lib.hid hx1; have H1 := Lib.hid hb; clear hx1 hb)
  obtain ⟨V1, hV⟩ : ∃ q, q = w1.alloc (.cells #[.slice AE1 p1.enums.length cE1, .slice AV1 p1.vars.length cV1, .slice AP1 p1.procs.length cP1, .slice AM1 mM1 cM1] 28) := ⟨_, rfl⟩
  have E1 : Hid (Below w1.heap.size w1 V1) := Lib.hid (by rw [hV]; exact (Below.refl _ _).alloc (Nat.le_refl _) _)
  have G1 : Hid (Blk V1 w1.heap.size 28 #[.slice AE1 p1.enums.length cE1, .slice AV1 p1.vars.length cV1, .slice AP1 p1.procs.length cP1, .slice AM1 mM1 cM1]) := Lib.hid (by rw [hV]; exact Blk.new w1 _ _)
  rw [← hV]
  clear hV
  go_upto_region 3 with (go_at_call 7; have HY := HP2.out V1; (with_reducible refine HY.mono ?_); clear HY; rintro e w2 ⟨n2, vE, vV, vP, vM, rfl, hb, hx1⟩; obtain ⟨AE2, cE2, rfl, -⟩ := hx1.en.slice; obtain ⟨AV2, cV2, rfl, -⟩ := hx1.va.slice; obtain ⟨AP2, cP2, rfl, -⟩ := hx1.pr.slice; obtain ⟨AM2, mM2, cM2, rfl⟩ := str_form hx1.mn; have X2 := Lib.hid hx1; have H2 := Lib.hid hb; clear hx1 hb)
  obtain ⟨V2, hV⟩ : ∃ q, q = w2.alloc (.cells #[.slice AE2 pg0.enums.length cE2, .slice AV2 pg0.vars.length cV2, .slice AP2 pg0.procs.length cP2, .slice AM2 mM2 cM2] 28) := ⟨_, rfl⟩
  have E2 : Hid (Below w2.heap.size w2 V2) := Lib.hid (by rw [hV]; exact (Below.refl _ _).alloc (Nat.le_refl _) _)
  have G2 : Hid (Blk V2 w2.heap.size 28 #[.slice AE2 pg0.enums.length cE2, .slice AV2 pg0.vars.length cV2, .slice AP2 pg0.procs.length cP2, .slice AM2 mM2 cM2]) := Lib.hid (by rw [hV]; exact Blk.new w2 _ _)
  rw [← hV]
  clear hV
  go_upto_region 4 with (go_at_call 16; have HY := HP3.out V2; (with_reducible refine HY.mono ?_); clear HY; rintro e w3 ⟨n3, A3, m3, c3, rfl, hb, hi1, hi2, hx1⟩; have X3 := Lib.hid hx1; have I3 := Lib.hid hi1; have H3 := Lib.hid hb; clear hx1 hb hi1 hi2)
  obtain ⟨V3, hV⟩ : ∃ q, q = w3.alloc (.cells #[.string x3.op, .string x3.nm, .int .i64 x3.n, .slice A3 m3 c3, .int .i64 x3.a] 52) := ⟨_, rfl⟩
  have E3 : Hid (Below w3.heap.size w3 V3) := Lib.hid (by rw [hV]; exact (Below.refl _ _).alloc (Nat.le_refl _) _)
  have G3 : Hid (Blk V3 w3.heap.size 52 #[.string x3.op, .string x3.nm, .int .i64 x3.n, .slice A3 m3 c3, .int .i64 x3.a]) := Lib.hid (by rw [hV]; exact Blk.new w3 _ _)
  rw [← hV]
  clear hV
  have K1 : Hid (Below w1.heap.size w1 V3) := Lib.hid (thru (thru (thru (thru E1.out H2.out) E2.out) H3.out) E3.out)
  have K2 : Hid (Below V1.heap.size V1 V3) := Lib.hid (thru (thru (thru H2.out E2.out) H3.out) E3.out)
  have B3 : Hid (Below W.heap.size W V3) := Lib.hid (thru H1.out K1.out)
  have XP : Hid (PgR (fun q => W.heap.size ≤ q ∧ q < w1.heap.size) n1 V3 p1 (.slice AE1 p1.enums.length cE1) (.slice AV1 p1.vars.length cV1) (.slice AP1 p1.procs.length cP1) (.slice AM1 mM1 cM1)) := Lib.hid (X1.out.below K1.out (fun q hq => hq.2))
  have XE : Hid (ExR (fun q => V2.heap.size ≤ q ∧ q < w3.heap.size) n3 V3 x3.l (.slice A3 m3 c3)) := Lib.hid (X3.out.below E3.out (fun q hq => hq.2))
  have GP := Lib.hid (G1.out.below K2.out G1.out.lt)
  have L1 : Hid (w1.heap.size ≤ V3.heap.size) := Lib.hid K1.out.size
  have L3 : Hid (w3.heap.size ≤ V3.heap.size) := Lib.hid E3.out.size
  have t0 := GP.out.cell 0
  have t1 := GP.out.cell 1
  have t2 := GP.out.cell 2
  have t3 := GP.out.cell 3
  simp at t0 t1 t2 t3
  have u0 := G3.out.cell 0
  have u1 := G3.out.cell 1
  have u2 := G3.out.cell 2
  have u3 := G3.out.cell 3
  have u4 := G3.out.cell 4
  simp at u0 u1 u2 u3 u4
  go_wp2_with (first
    | (go_at_call 17; have HY := HPr.out _ _ _ _ _ _ _ XP.out (fun q hq => Nat.lt_of_lt_of_le hq.2 L1.out) (HT.out.stays B3.out); (with_reducible refine HY.mono ?_); clear HY; rintro e w4 ⟨rfl, hb⟩; have B4 := Lib.hid (thru B3.out hb); have XE4 := Lib.hid (XE.out.below hb (fun q hq => Nat.lt_of_lt_of_le hq.2 L3.out)); have L4 := Lib.hid (Nat.le_trans L3.out hb.size); have GE4 := Lib.hid (G3.out.below hb G3.out.lt); have v0 := GE4.out.cell 0; have v1 := GE4.out.cell 1; have v2 := GE4.out.cell 2; have v3 := GE4.out.cell 3; have v4 := GE4.out.cell 4; simp at v0 v1 v2 v3 v4; clear hb)
    | (go_at_call 18; have HY := HTx.out _ _ _ _ XE4.out (fun q hq => Nat.lt_of_lt_of_le hq.2 L4.out) (HT.out.stays B4.out) I3.out; (with_reducible refine HY.mono ?_); clear HY; rintro e w5 ⟨rfl, hb⟩; have B5 := Lib.hid (thru B4.out hb); clear hb)
    | (go_at_call 19; (with_reducible refine (HR1.out _).mono ?_); rintro e w6 ⟨rfl, rfl⟩)
    | (go_at_call 19; (with_reducible refine (HR2.out _).mono ?_); rintro e w6 ⟨rfl, rfl⟩))
  go_ret
  exact ⟨rfl, B5.out⟩
end
end Go.Proofs.YteaongdlbleehaaGreatDoor
