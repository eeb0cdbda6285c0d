/- The parse layer: ParsePrints' walk. -/
import Derived.Test.YteaongdlbleehaaGreatDoorGPsAl
import Derived.Test.YteaongdlbleehaaGreatDoorGPsOkP
import Derived.Test.YteaongdlbleehaaGreatDoorGPsOld
import Derived.Test.YteaongdlbleehaaGreatDoorGTrRPr
import Derived.Test.YteaongdlbleehaaGreatDoorTrSized
namespace Go.Proofs.YteaongdlbleehaaGreatDoor
open Go.RowKit
section
variable {B b len k n : Nat} {M : Value} {s : PS} {w : World}
theorem parse_none {l : Bs} (h : (parseT l).2.2 ≠ 0) : (parseT l).1 = pg0 := by
  unfold parseT readT at h ⊢
  split at h
  · rename_i h1
    rw [if_pos h1]
  · rename_i h1
    rw [if_neg h1]
    split at h
    · rename_i h2
      rw [if_pos h2]
    · exact absurd rfl h
theorem sz_none : W64 (szPg pg0) = 0 := by kernel_rfl
set_option maxHeartbeats 6400000 in
set_option maxRecDepth 100000 in
theorem prints_walk (src : ByteArray) (W : World) (ht : Tabs W) : Calls Tryz.prog 3 #[.string src] W (fun e w' => e = .returned (.bool true) ∧ Below W.heap.size W w') := by
  have HAl : Hid (∀ w, Below W.heap.size W w → Calls Tryz.prog 6 #[] w (fun e w' => e = .returned (.bool true) ∧ Below w.heap.size w w')) := Lib.hid fun w hb => alive13_any w (ht.stays hb)
  have B0 : Hid (Below W.heap.size W W) := Lib.hid (Below.refl _ _)
  by_cases hlen : 5000 < src.size
  · have g0 : ((src.size : Int) > 5000) := by omega
    clear hlen
    go_enter Tryz.func3, Tryz.ntmps3
    go_wp2_with (go_at_call 6; have HY := HAl.out _ B0.out; (with_reducible refine HY.mono ?_); clear HY; rintro e w1 ⟨rfl, hb⟩; have B1 := Lib.hid (thru B0.out hb); clear hb)
    go_ret
    exact ⟨rfl, B1.out⟩
  · have g0 : ¬ ((src.size : Int) > 5000) := by omega
    clear hlen
    obtain ⟨p, at1, no, hp⟩ : ∃ p at1 no, parseT src.data.toList = (p, at1, no) := ⟨_, _, _, rfl⟩
    have HPa : Hid (∀ w, Calls Tryz.prog 7 #[.string src] w (fun e w' => ∃ n vE vV vP vM, e = .returned (.tuple #[pgV vE vV vP vM, .int .i64 (at1 : Int), .int .i64 (no : Int)]) ∧ Below w.heap.size w w' ∧ PgR (fun q => w.heap.size ≤ q ∧ q < w'.heap.size) n w' p vE vV vP vM)) := Lib.hid fun w => by
      have := Parse_any src w
      unfold RetRP at this
      rw [hp] at this
      exact this
    have HOl : Hid (∀ w n vE vV vP vM, PgR (fun b => b < w.heap.size) n w p vE vV vP vM → Calls Tryz.prog 9 #[pgV vE vV vP vM] w (RetPg n p w)) := Lib.hid fun w n vE vV vP vM h => Old.prog_any n p vE vV vP vM w h
    by_cases hno : no = 0
    · subst hno
      have g1 : (((0 : Nat) : Int) != 0) = false := rfl
      have hok := parse_ok (l := src.data.toList) (by rw [hp])
      rw [hp] at hok
      have hok : OkP p ∧ wtQ p + szB p.main ≤ 4096 ∧ at1 = src.data.toList.length := hok
      have hl9 := len_prog hok.1 hok.2.1
      have HPr : Hid (∀ w n (P : Nat → Prop) vE vV vP vM, PgR P n w p vE vV vP vM → (∀ q, P q → q < w.heap.size) → Calls Tryz.prog 10 #[pgV vE vV vP vM] w (fun e w' => e = .returned (.string (bA (printF Lib.itoa p))) ∧ Below w.heap.size w w')) := Lib.hid fun w n P vE vV vP vM h hP => rprint_any n p vE vV vP vM P w h hP (whole_prog hok.1) (by omega)
      have hpp := parse_print hok.1
      obtain ⟨S, hS⟩ : ∃ S, S = bA (printF Lib.itoa p) := ⟨_, rfl⟩
      have hSs : S.size = (printF Lib.itoa p).length := by rw [hS]; rfl
      obtain ⟨p2, at2, no2, hp2⟩ : ∃ p2 at2 no2, parseT (printF Lib.itoa p) = (p2, at2, no2) := ⟨_, _, _, rfl⟩
      rw [hp2, ← hSs] at hpp
      have HP2 : Hid (∀ w, Calls Tryz.prog 7 #[.string S] w (fun e w' => ∃ n vE vV vP vM, e = .returned (.tuple #[pgV vE vV vP vM, .int .i64 (at2 : Int), .int .i64 (no2 : Int)]) ∧ Below w.heap.size w w' ∧ PgR (fun q => w.heap.size ≤ q ∧ q < w'.heap.size) n w' p2 vE vV vP vM)) := Lib.hid fun w => by
        have := Parse_any S w
        unfold RetRP at this
        rw [show S.data.toList = printF Lib.itoa p by rw [hS], hp2] at this
        exact this
      rw [← hS] at HPr
      have HSm : Hid (samePg p p2 = true → ∀ w n m vE vV vP vM uE uV uP uM, PgR (fun b => b < w.heap.size) n w p vE vV vP vM → PgR (fun b => b < w.heap.size) m w p2 uE uV uP uM → Calls Tryz.prog 11 #[pgV vE vV vP vM, pgV uE uV uP uM] w (fun e w' => e = .returned (.bool true) ∧ Below w.heap.size w w')) := Lib.hid fun hs w n m vE vV vP vM uE uV uP uM h1 h2 => by
        have := same_any (n + m) p p2 vE vV vP vM uE uV uP uM (fun b => b < w.heap.size) w (h1.le (Nat.le_add_right _ _)) (h2.le (Nat.le_add_left _ _)) (fun b hb => hb)
        rw [hs] at this
        exact this
      clear hok hl9 hS hp hp2 hSs ht
      go_enter Tryz.func3, Tryz.ntmps3
      go_upto_region 3 with fail
      go_upto_region 4 with (go_at_call 7; have HY := HPa.out W; (with_reducible refine HY.mono ?_); clear HY; rintro e w1 ⟨n1, vE, vV, vP, vM, rfl, hb, hx1⟩; obtain ⟨AE1, cE1, rfl, -⟩ := hx1.en.slice; obtain ⟨AV1, cV1, rfl, -⟩ := hx1.va.slice; obtain ⟨AP1, cP1, rfl, -⟩ := hx1.pr.slice; obtain ⟨AM1, mM1, cM1, rfl⟩ := str_form hx1.mn; have X1 := Lib.hid hx1; have H1 := Lib.hid hb; clear hx1 hb)
      obtain ⟨V1, hV⟩ : ∃ q, q = w1.alloc (.cells #[.slice AE1 p.enums.length cE1, .slice AV1 p.vars.length cV1, .slice AP1 p.procs.length cP1, .slice AM1 mM1 cM1] 28) := ⟨_, rfl⟩
      have E1 : Hid (Below w1.heap.size w1 V1) := Lib.hid (by rw [hV]; exact (Below.refl _ _).alloc (Nat.le_refl _) _)
      have G1 : Hid (Blk V1 w1.heap.size 28 #[.slice AE1 p.enums.length cE1, .slice AV1 p.vars.length cV1, .slice AP1 p.procs.length cP1, .slice AM1 mM1 cM1]) := Lib.hid (by rw [hV]; exact Blk.new w1 _ _)
      have K1 : Hid (Below W.heap.size W V1) := Lib.hid (thru H1.out E1.out)
      have XB1 : Hid (PgR (fun q => q < V1.heap.size) n1 V1 p (.slice AE1 p.enums.length cE1) (.slice AV1 p.vars.length cV1) (.slice AP1 p.procs.length cP1) (.slice AM1 mM1 cM1)) := Lib.hid ((X1.out.below E1.out (fun q hq => hq.2)).wide (fun q hq => Nat.lt_of_lt_of_le hq.2 E1.out.size))
      rw [← hV]
      clear hV X1 H1 E1
      have B1 : Hid (Below W.heap.size W V1) := Lib.hid K1.out
      go_upto_region 6 with fail
      have t0 := G1.out.cell 0
      have t1 := G1.out.cell 1
      have t2 := G1.out.cell 2
      have t3 := G1.out.cell 3
      simp at t0 t1 t2 t3
      go_upto_region 7 with (first
        | (go_at_call 9; have HY := HOl.out _ _ _ _ _ _ XB1.out; (with_reducible refine HY.mono ?_); clear HY; rintro e w2 ⟨uE, uV, uP, uM, rfl, hx2, hb⟩; have Y2 := Lib.hid hx2; have B2 := Lib.hid (thru B1.out hb); have XB2 := Lib.hid ((XB1.out.below hb (fun q hq => hq)).wide (P' := fun q => q < w2.heap.size) (fun q hq => Nat.lt_of_lt_of_le hq hb.size)); have G2 := Lib.hid (G1.out.below hb G1.out.lt); clear hx2 hb)
        | (go_at_call 10; have HY := HPr.out _ _ _ _ _ _ _ Y2.out (fun q hq => hq); (with_reducible refine HY.mono ?_); clear HY; rintro e w3 ⟨rfl, hb⟩; have B3 := Lib.hid (thru B2.out hb); have XB3 := Lib.hid ((XB2.out.below hb (fun q hq => hq)).wide (P' := fun q => q < w3.heap.size) (fun q hq => Nat.lt_of_lt_of_le hq hb.size)); have G3 := Lib.hid (G2.out.below hb G2.out.lt); clear hb))
      clear t0 t1 t2 t3
      go_upto_region 8 with (go_at_call 7; have HY := HP2.out w3; (with_reducible refine HY.mono ?_); clear HY; rintro e w4 ⟨n5, vE, vV, vP, vM, rfl, hb, hx1⟩; obtain ⟨AE5, cE5, rfl, -⟩ := hx1.en.slice; obtain ⟨AV5, cV5, rfl, -⟩ := hx1.va.slice; obtain ⟨AP5, cP5, rfl, -⟩ := hx1.pr.slice; obtain ⟨AM5, mM5, cM5, rfl⟩ := str_form hx1.mn; have X5 := Lib.hid hx1; have H5 := Lib.hid hb; clear hx1 hb)
      obtain ⟨V5, hV⟩ : ∃ q, q = w4.alloc (.cells #[.slice AE5 p2.enums.length cE5, .slice AV5 p2.vars.length cV5, .slice AP5 p2.procs.length cP5, .slice AM5 mM5 cM5] 28) := ⟨_, rfl⟩
      have E5 : Hid (Below w4.heap.size w4 V5) := Lib.hid (by rw [hV]; exact (Below.refl _ _).alloc (Nat.le_refl _) _)
      have G5 : Hid (Blk V5 w4.heap.size 28 #[.slice AE5 p2.enums.length cE5, .slice AV5 p2.vars.length cV5, .slice AP5 p2.procs.length cP5, .slice AM5 mM5 cM5]) := Lib.hid (by rw [hV]; exact Blk.new w4 _ _)
      have K5 : Hid (Below w3.heap.size w3 V5) := Lib.hid (thru H5.out E5.out)
      have XB5 : Hid (PgR (fun q => q < V5.heap.size) n5 V5 p2 (.slice AE5 p2.enums.length cE5) (.slice AV5 p2.vars.length cV5) (.slice AP5 p2.procs.length cP5) (.slice AM5 mM5 cM5)) := Lib.hid ((X5.out.below E5.out (fun q hq => hq.2)).wide (fun q hq => Nat.lt_of_lt_of_le hq.2 E5.out.size))
      rw [← hV]
      clear hV X5 H5 E5
      have B5 : Hid (Below W.heap.size W V5) := Lib.hid (thru B3.out K5.out)
      have XB6 := Lib.hid ((XB3.out.below K5.out (fun q hq => hq)).wide (P' := fun q => q < V5.heap.size) (fun q hq => Nat.lt_of_lt_of_le hq K5.out.size))
      have G6 := Lib.hid (G3.out.below K5.out G3.out.lt)
      rcases hpp with ⟨hl, hn⟩ | ⟨p3, h3, hl, hs⟩ | ⟨hn, hl, -⟩
      · have hn : no2 = 111 := hn
        subst hn
        have g2 : ((S.size : Int) > 4096) := by omega
        clear hl
        go_wp2_with (go_at_call 6; have HY := HAl.out _ B5.out; (with_reducible refine HY.mono ?_); clear HY; rintro e w6 ⟨rfl, hb⟩; have B6 := Lib.hid (thru B5.out hb); clear hb)
        go_ret
        exact ⟨rfl, B6.out⟩
      · have hs3 : p3 = p2 ∧ at2 = S.size ∧ no2 = 0 := by
          injection h3 with h3 h4
          injection h4 with h4 h5
          exact ⟨h3.symm, h4, h5⟩
        obtain ⟨rfl, rfl, rfl⟩ := hs3
        have HSm2 := Lib.hid (HSm.out hs)
        clear h3 hl hs
        go_wp2_with (first
          | (go_at_call 6; have HY := HAl.out _ B5.out; (with_reducible refine HY.mono ?_); clear HY; rintro e w6 ⟨rfl, hb⟩; have B6 := Lib.hid (thru B5.out hb); have XC := Lib.hid ((XB6.out.below hb (fun q hq => hq)).wide (P' := fun q => q < w6.heap.size) (fun q hq => Nat.lt_of_lt_of_le hq hb.size)); have XD := Lib.hid ((XB5.out.below hb (fun q hq => hq)).wide (P' := fun q => q < w6.heap.size) (fun q hq => Nat.lt_of_lt_of_le hq hb.size)); have G7 := Lib.hid (G6.out.below hb G6.out.lt); have G8 := Lib.hid (G5.out.below hb G5.out.lt); have t0 := G7.out.cell 0; have t1 := G7.out.cell 1; have t2 := G7.out.cell 2; have t3 := G7.out.cell 3; simp at t0 t1 t2 t3; have u0 := G8.out.cell 0; have u1 := G8.out.cell 1; have u2 := G8.out.cell 2; have u3 := G8.out.cell 3; simp at u0 u1 u2 u3; clear hb)
          | (go_at_call 11; have HY := HSm2.out _ _ _ _ _ _ _ _ _ _ _ XC.out XD.out; (with_reducible refine HY.mono ?_); clear HY; rintro e w7 ⟨rfl, hb⟩; have B7 := Lib.hid (thru B6.out hb); clear hb))
        go_ret
        exact ⟨rfl, B7.out⟩
      · have hn : no2 = 131 := hn
        subst hn
        clear hl
        go_wp2_with (go_at_call 6; have HY := HAl.out _ B5.out; (with_reducible refine HY.mono ?_); clear HY; rintro e w6 ⟨rfl, hb⟩; have B6 := Lib.hid (thru B5.out hb); clear hb)
        go_ret
        exact ⟨rfl, B6.out⟩
    · have g1 : ((no : Int) != 0) = true := by simp; exact hno
      have hp0 : p = pg0 := by
        have := parse_none (l := src.data.toList) (by rw [hp]; exact hno)
        rw [hp] at this
        exact this
      have HSz : Hid (∀ w n (P : Nat → Prop) vE vV vP vM, PgR P n w p vE vV vP vM → (∀ q, P q → q < w.heap.size) → Calls Tryz.prog 8 #[pgV vE vV vP vM] w (fun e w' => e = .returned (.int .i64 0) ∧ Below w.heap.size w w')) := Lib.hid fun w n P vE vV vP vM h hP => by
        have := rSized_any n p vE vV vP vM P w h hP
        rw [hp0, sz_none] at this
        exact this
      clear hp0 hp ht hno
      go_enter Tryz.func3, Tryz.ntmps3
      go_upto_region 3 with fail
      go_upto_region 4 with (go_at_call 7; have HY := HPa.out W; (with_reducible refine HY.mono ?_); clear HY; rintro e w1 ⟨n1, vE, vV, vP, vM, rfl, hb, hx1⟩; obtain ⟨AE1, cE1, rfl, -⟩ := hx1.en.slice; obtain ⟨AV1, cV1, rfl, -⟩ := hx1.va.slice; obtain ⟨AP1, cP1, rfl, -⟩ := hx1.pr.slice; obtain ⟨AM1, mM1, cM1, rfl⟩ := str_form hx1.mn; have X1 := Lib.hid hx1; have H1 := Lib.hid hb; clear hx1 hb)
      obtain ⟨V1, hV⟩ : ∃ q, q = w1.alloc (.cells #[.slice AE1 p.enums.length cE1, .slice AV1 p.vars.length cV1, .slice AP1 p.procs.length cP1, .slice AM1 mM1 cM1] 28) := ⟨_, rfl⟩
      have E1 : Hid (Below w1.heap.size w1 V1) := Lib.hid (by rw [hV]; exact (Below.refl _ _).alloc (Nat.le_refl _) _)
      have G1 : Hid (Blk V1 w1.heap.size 28 #[.slice AE1 p.enums.length cE1, .slice AV1 p.vars.length cV1, .slice AP1 p.procs.length cP1, .slice AM1 mM1 cM1]) := Lib.hid (by rw [hV]; exact Blk.new w1 _ _)
      have K1 : Hid (Below W.heap.size W V1) := Lib.hid (thru H1.out E1.out)
      have XB1 : Hid (PgR (fun q => q < V1.heap.size) n1 V1 p (.slice AE1 p.enums.length cE1) (.slice AV1 p.vars.length cV1) (.slice AP1 p.procs.length cP1) (.slice AM1 mM1 cM1)) := Lib.hid ((X1.out.below E1.out (fun q hq => hq.2)).wide (fun q hq => Nat.lt_of_lt_of_le hq.2 E1.out.size))
      rw [← hV]
      clear hV X1 H1 E1
      have B1 : Hid (Below W.heap.size W V1) := Lib.hid K1.out
      go_wp2_with (first
        | (go_at_call 6; have HY := HAl.out _ B1.out; (with_reducible refine HY.mono ?_); clear HY; rintro e w2 ⟨rfl, hb⟩; have B2 := Lib.hid (thru B1.out hb); have XC := Lib.hid ((XB1.out.below hb (fun q hq => hq)).wide (P' := fun q => q < w2.heap.size) (fun q hq => Nat.lt_of_lt_of_le hq hb.size)); have G2 := Lib.hid (G1.out.below hb G1.out.lt); have t0 := G2.out.cell 0; have t1 := G2.out.cell 1; have t2 := G2.out.cell 2; have t3 := G2.out.cell 3; simp at t0 t1 t2 t3; clear hb)
        | (go_at_call 9; have HY := HOl.out _ _ _ _ _ _ XC.out; (with_reducible refine HY.mono ?_); clear HY; rintro e w3 ⟨uE, uV, uP, uM, rfl, hx2, hb⟩; have Y3 := Lib.hid hx2; have B3 := Lib.hid (thru B2.out hb); clear hx2 hb)
        | (go_at_call 8; have HY := HSz.out _ _ _ _ _ _ _ Y3.out (fun q hq => hq); (with_reducible refine HY.mono ?_); clear HY; rintro e w4 ⟨rfl, hb⟩; have B4 := Lib.hid (thru B3.out hb); clear hb))
      go_ret
      exact ⟨rfl, B4.out⟩
end
end Go.Proofs.YteaongdlbleehaaGreatDoor
