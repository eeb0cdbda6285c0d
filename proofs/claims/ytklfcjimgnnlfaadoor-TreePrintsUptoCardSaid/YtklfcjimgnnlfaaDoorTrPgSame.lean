/- The tree layer: enums, procedures, programs: what is the same. -/
import Derived.Test.YtklfcjimgnnlfaaDoorTrPg
namespace Go.Proofs.YtklfcjimgnnlfaaDoor
open Go.RowKit
section
variable {W : World}
set_option maxRecDepth 100000 in
set_option maxHeartbeats 3200000 in
theorem sameEnum_any  (x y : ByteArray × List ByteArray) (v u : Value) (P : Nat → Prop) (W : World) (hv : StrR P W x.2 v) (hu : StrR P W y.2 u) (hP : ∀ b, P b → b < W.heap.size) : Calls Tryd.prog 37 #[.agg #[.string x.1, v], .agg #[.string y.1, u]] W (fun e w' => e = .returned (.bool (sameEn x y)) ∧ Below W.heap.size W w') := by
  obtain ⟨q, hq⟩ : ∃ q, q = sameF sameSt x.2 y.2 := ⟨_, rfl⟩
  have HX : Hid (sameEn x y = ((x.1.toList == y.1.toList) && q)) := Lib.hid (by rw [hq]; rfl)
  have HC : Hid (∀ w2, Below W.heap.size W w2 → Calls Tryd.prog 58 #[v, u] w2 (fun e w' => e = .returned (.bool q) ∧ Below w2.heap.size w2 w')) := Lib.hid fun w2 hb2 => by
    rw [hq]
    exact eqStrs_any _ _ _ _ P w2 (hv.kept fun b q => hb2.block b (hP b q)) (hu.kept fun b q => hb2.block b (hP b q)) (lo_up hP hb2.size)
  obtain ⟨A1, c1, rfl, -, -⟩ := hv.slice
  obtain ⟨A2, c2, rfl, -, -⟩ := hu.slice
  have HB : Hid (Below W.heap.size W ((W.alloc (.cells #[.string x.1, .slice A1 x.2.length c1] 68)).alloc (.cells #[.string y.1, .slice A2 y.2.length c2] 68))) := Lib.hid (thru ((Below.refl _ _).alloc (Nat.le_refl _) _) ((Below.refl _ _).alloc (Nat.le_refl _) _))
  rw [HX.out]
  clear hv hu hq
  cases b1 : (x.1.toList == y.1.toList)
  · go_enter Tryd.func37, Tryd.ntmps37
    go_wp2
    go_ret
    exact ⟨rfl, HB.out⟩
  · go_enter Tryd.func37, Tryd.ntmps37
    go_wp2_with (go_at_call 58; with_reducible refine (HC.out _ HB.out).mono ?_; rintro e w1 ⟨rfl, hb⟩; have HB3 := Lib.hid (thru HB.out hb); clear hb)
    go_ret
    exact ⟨rfl, HB3.out⟩
set_option maxRecDepth 100000 in
set_option maxHeartbeats 3200000 in
theorem sameProc_any (n : Nat) (x y : ByteArray × List St) (v u : Value) (P : Nat → Prop) (W : World) (hv : StR P n W x.2 v) (hu : StR P n W y.2 u) (hP : ∀ b, P b → b < W.heap.size) : Calls Tryd.prog 40 #[.agg #[.string x.1, v], .agg #[.string y.1, u]] W (fun e w' => e = .returned (.bool (samePr x y)) ∧ Below W.heap.size W w') := by
  obtain ⟨q, hq⟩ : ∃ q, q = sameB x.2 y.2 := ⟨_, rfl⟩
  have HX : Hid (samePr x y = ((x.1.toList == y.1.toList) && q)) := Lib.hid (by rw [hq]; rfl)
  have HC : Hid (∀ w2, Below W.heap.size W w2 → Calls Tryd.prog 41 #[v, u] w2 (fun e w' => e = .returned (.bool q) ∧ Below w2.heap.size w2 w')) := Lib.hid fun w2 hb2 => by
    rw [hq]
    exact sameBlock_any n _ _ _ _ P w2 (hv.below hb2 hP) (hu.below hb2 hP) (lo_up hP hb2.size)
  obtain ⟨A1, c1, rfl, -, -⟩ := hv.slice
  obtain ⟨A2, c2, rfl, -, -⟩ := hu.slice
  have HB : Hid (Below W.heap.size W ((W.alloc (.cells #[.string x.1, .slice A1 x.2.length c1] 47)).alloc (.cells #[.string y.1, .slice A2 y.2.length c2] 47))) := Lib.hid (thru ((Below.refl _ _).alloc (Nat.le_refl _) _) ((Below.refl _ _).alloc (Nat.le_refl _) _))
  rw [HX.out]
  clear hv hu hq
  cases b1 : (x.1.toList == y.1.toList)
  · go_enter Tryd.func40, Tryd.ntmps40
    go_wp2
    go_ret
    exact ⟨rfl, HB.out⟩
  · go_enter Tryd.func40, Tryd.ntmps40
    go_wp2_with (go_at_call 41; with_reducible refine (HC.out _ HB.out).mono ?_; rintro e w1 ⟨rfl, hb⟩; have HB3 := Lib.hid (thru HB.out hb); clear hb)
    go_ret
    exact ⟨rfl, HB3.out⟩
set_option maxRecDepth 100000 in
set_option maxHeartbeats 6400000 in
theorem enumsEq_any  : ∀ (l r : List (ByteArray × List ByteArray)) (v u : Value) (P : Nat → Prop) (W : World), EnR P W l v → EnR P W r u → (∀ b, P b → b < W.heap.size) → Calls Tryd.prog 36 #[v, u, .func (.func 37) #[] #[]] W (fun e w' => e = .returned (.bool (sameF sameEn l r)) ∧ Below W.heap.size W w') := by
  intro l r v u P W hv hu hP
  obtain ⟨A1, cap1, rfl, hc1, hl1, hat1⟩ := hv
  obtain ⟨A2, cap2, rfl, hc2, hl2, hat2⟩ := hu
  have HA1 := Lib.hid hat1
  have HA2 := Lib.hid hat2
  have hl3 : l.length ≤ 140737488355328 := by omega
  have hl4 : r.length ≤ 140737488355328 := by omega
  clear hat1 hat2 hl1 hl2
  by_cases hlen : l.length = r.length
  · have hneq : ((l.length : Int) != (r.length : Int)) = false := by rw [hlen]; simp
    obtain ⟨m, hm⟩ : ∃ m, r.length = m := ⟨_, rfl⟩
    rw [hm] at hlen hneq hl4 hc2 ⊢
    have HM1 := Lib.hid hlen
    have HM2 := Lib.hid hm
    rw [hlen] at hl3 hc1 hneq ⊢
    clear hm hlen
    go_enter Tryd.func36, Tryd.ntmps36
    go_wp2
    go_loopw [17] (fun i wr => ∃ k : Nat, i = .int .i64 (k : Int) ∧ k ≤ m ∧ Hid (sameF sameEn (l.drop k) (r.drop k) = sameF sameEn l r) ∧ Below W.heap.size W wr) (fun i _ => m - (RowKit.intOf i).toNat)
    case atStart => exact ⟨0, rfl, Nat.zero_le _, Lib.hid rfl, Below.refl _ _⟩
    case round =>
      obtain ⟨k, rfl, hk, HEq, hbw⟩ := hrel
      by_cases hlt : k < m
      · obtain ⟨x, hx⟩ : ∃ x, l[k]? = some x := ⟨l[k]'(by rw [HM1.out]; exact hlt), List.getElem?_eq_getElem _⟩
        obtain ⟨y, hy⟩ : ∃ y, r[k]? = some y := ⟨r[k]'(by rw [HM2.out]; exact hlt), List.getElem?_eq_getElem _⟩
        obtain ⟨b1, off1, L1, rfl, hbB1, ha1, hr1⟩ := HA1.out k x hx
        obtain ⟨b2, off2, L2, rfl, hbB2, ha2, hr2⟩ := HA2.out k y hy
        obtain ⟨x0, x1⟩ := keep2 ha1 (hbw.block b1 (hP b1 hbB1))
        obtain ⟨y0, y1⟩ := keep2 ha2 (hbw.block b2 (hP b2 hbB2))
        obtain ⟨B1, c1, rfl, -, -⟩ := hr1.slice
        obtain ⟨B2, c2, rfl, -, -⟩ := hr2.slice
        obtain ⟨q, hq⟩ : ∃ q, q = sameEn x y := ⟨_, rfl⟩
        have HC : Hid (∀ w2, Below W.heap.size W w2 → Calls Tryd.prog 37 #[.agg #[.string x.1, .slice B1 x.2.length c1], .agg #[.string y.1, .slice B2 y.2.length c2]] w2 (fun e w' => e = .returned (.bool q) ∧ Below w2.heap.size w2 w')) := Lib.hid fun w2 hb2 => by
          rw [hq]
          exact sameEnum_any x y _ _ P w2 (hr1.kept fun b q => hb2.block b (hP b q)) (hr2.kept fun b q => hb2.block b (hP b q)) (lo_up hP hb2.size)
        clear ha1 ha2 hr1 hr2
        have hbw2 : b2 < wr.heap.size := lo_up hP hbw.size b2 hbB2
        have HBw := Lib.hid hbw
        have HB1 := Lib.hid ((Below.refl wr.heap.size wr).alloc (Nat.le_refl _) (.cells #[.string x.1, .slice B1 x.2.length c1] 68))
        have HB2 := Lib.hid (thru HB1.out ((Below.refl _ _).alloc (Nat.le_refl _) (.cells #[.string y.1, .slice B2 y.2.length c2] 68)))
        have HSt : Hid (sameF sameEn (l.drop k) (r.drop k) = (q && sameF sameEn (l.drop (k + 1)) (r.drop (k + 1)))) := Lib.hid (by
          exact (sameF_at _ hx hy).trans (by rw [hq]))
        clear hbw hx hy hq
        cases q
        · go_wp2_with (go_at_call 37; with_reducible refine (HC.out _ (thru HBw.out HB2.out)).mono ?_; rintro e w1 ⟨rfl, hb⟩; have HB3 := Lib.hid (thru HBw.out (thru HB2.out hb)); clear hb)
          go_ret
          exact ⟨ret_bool (by rw [← HEq.out, HSt.out, Bool.false_and]), HB3.out⟩
        · go_wp2_with (go_at_call 37; with_reducible refine (HC.out _ (thru HBw.out HB2.out)).mono ?_; rintro e w1 ⟨rfl, hb⟩; have HB3 := Lib.hid (thru HBw.out (thru HB2.out hb)); clear hb)
          go_roundw
          case rel => exact ⟨k + 1, by go_num, hlt, Lib.hid (by rw [← HEq.out, HSt.out, Bool.true_and]), HB3.out⟩
          case measure => simp [RowKit.intOf]; omega
      · have he : k = m := by omega
        subst he
        have HT : Hid (sameF sameEn l r = true) := Lib.hid (by rw [← HEq.out, List.drop_eq_nil_of_le (by rw [HM1.out]; exact Nat.le_refl _), List.drop_eq_nil_of_le (by rw [HM2.out]; exact Nat.le_refl _)]; rfl)
        go_wp2_with fail
        go_ret
        exact ⟨ret_bool HT.out.symm, hbw⟩
  · have hneq : ((l.length : Int) != (r.length : Int)) = true := by simp; omega
    have HF : Hid (sameF sameEn l r = false) := Lib.hid (by exact sameF_len _ hlen)
    clear hlen
    go_enter Tryd.func36, Tryd.ntmps36
    go_wp2
    go_ret
    exact ⟨ret_bool HF.out.symm, Below.refl _ _⟩
set_option maxRecDepth 100000 in
set_option maxHeartbeats 6400000 in
theorem procsEq_any (n : Nat) : ∀ (l r : List (ByteArray × List St)) (v u : Value) (P : Nat → Prop) (W : World), PrR P n W l v → PrR P n W r u → (∀ b, P b → b < W.heap.size) → Calls Tryd.prog 39 #[v, u, .func (.func 40) #[] #[]] W (fun e w' => e = .returned (.bool (sameF samePr l r)) ∧ Below W.heap.size W w') := by
  intro l r v u P W hv hu hP
  obtain ⟨A1, cap1, rfl, hc1, hl1, hat1⟩ := hv
  obtain ⟨A2, cap2, rfl, hc2, hl2, hat2⟩ := hu
  have HA1 := Lib.hid hat1
  have HA2 := Lib.hid hat2
  have hl3 : l.length ≤ 140737488355328 := by omega
  have hl4 : r.length ≤ 140737488355328 := by omega
  clear hat1 hat2 hl1 hl2
  by_cases hlen : l.length = r.length
  · have hneq : ((l.length : Int) != (r.length : Int)) = false := by rw [hlen]; simp
    obtain ⟨m, hm⟩ : ∃ m, r.length = m := ⟨_, rfl⟩
    rw [hm] at hlen hneq hl4 hc2 ⊢
    have HM1 := Lib.hid hlen
    have HM2 := Lib.hid hm
    rw [hlen] at hl3 hc1 hneq ⊢
    clear hm hlen
    go_enter Tryd.func39, Tryd.ntmps39
    go_wp2
    go_loopw [17] (fun i wr => ∃ k : Nat, i = .int .i64 (k : Int) ∧ k ≤ m ∧ Hid (sameF samePr (l.drop k) (r.drop k) = sameF samePr l r) ∧ Below W.heap.size W wr) (fun i _ => m - (RowKit.intOf i).toNat)
    case atStart => exact ⟨0, rfl, Nat.zero_le _, Lib.hid rfl, Below.refl _ _⟩
    case round =>
      obtain ⟨k, rfl, hk, HEq, hbw⟩ := hrel
      by_cases hlt : k < m
      · obtain ⟨x, hx⟩ : ∃ x, l[k]? = some x := ⟨l[k]'(by rw [HM1.out]; exact hlt), List.getElem?_eq_getElem _⟩
        obtain ⟨y, hy⟩ : ∃ y, r[k]? = some y := ⟨r[k]'(by rw [HM2.out]; exact hlt), List.getElem?_eq_getElem _⟩
        obtain ⟨b1, off1, L1, rfl, hbB1, ha1, hr1⟩ := HA1.out k x hx
        obtain ⟨b2, off2, L2, rfl, hbB2, ha2, hr2⟩ := HA2.out k y hy
        obtain ⟨x0, x1⟩ := keep2 ha1 (hbw.block b1 (hP b1 hbB1))
        obtain ⟨y0, y1⟩ := keep2 ha2 (hbw.block b2 (hP b2 hbB2))
        obtain ⟨B1, c1, rfl, -, -⟩ := hr1.slice
        obtain ⟨B2, c2, rfl, -, -⟩ := hr2.slice
        obtain ⟨q, hq⟩ : ∃ q, q = samePr x y := ⟨_, rfl⟩
        have HC : Hid (∀ w2, Below W.heap.size W w2 → Calls Tryd.prog 40 #[.agg #[.string x.1, .slice B1 x.2.length c1], .agg #[.string y.1, .slice B2 y.2.length c2]] w2 (fun e w' => e = .returned (.bool q) ∧ Below w2.heap.size w2 w')) := Lib.hid fun w2 hb2 => by
          rw [hq]
          exact sameProc_any n x y _ _ P w2 (hr1.below hb2 hP) (hr2.below hb2 hP) (lo_up hP hb2.size)
        clear ha1 ha2 hr1 hr2
        have hbw2 : b2 < wr.heap.size := lo_up hP hbw.size b2 hbB2
        have HBw := Lib.hid hbw
        have HB1 := Lib.hid ((Below.refl wr.heap.size wr).alloc (Nat.le_refl _) (.cells #[.string x.1, .slice B1 x.2.length c1] 47))
        have HB2 := Lib.hid (thru HB1.out ((Below.refl _ _).alloc (Nat.le_refl _) (.cells #[.string y.1, .slice B2 y.2.length c2] 47)))
        have HSt : Hid (sameF samePr (l.drop k) (r.drop k) = (q && sameF samePr (l.drop (k + 1)) (r.drop (k + 1)))) := Lib.hid (by
          exact (sameF_at _ hx hy).trans (by rw [hq]))
        clear hbw hx hy hq
        cases q
        · go_wp2_with (go_at_call 40; with_reducible refine (HC.out _ (thru HBw.out HB2.out)).mono ?_; rintro e w1 ⟨rfl, hb⟩; have HB3 := Lib.hid (thru HBw.out (thru HB2.out hb)); clear hb)
          go_ret
          exact ⟨ret_bool (by rw [← HEq.out, HSt.out, Bool.false_and]), HB3.out⟩
        · go_wp2_with (go_at_call 40; with_reducible refine (HC.out _ (thru HBw.out HB2.out)).mono ?_; rintro e w1 ⟨rfl, hb⟩; have HB3 := Lib.hid (thru HBw.out (thru HB2.out hb)); clear hb)
          go_roundw
          case rel => exact ⟨k + 1, by go_num, hlt, Lib.hid (by rw [← HEq.out, HSt.out, Bool.true_and]), HB3.out⟩
          case measure => simp [RowKit.intOf]; omega
      · have he : k = m := by omega
        subst he
        have HT : Hid (sameF samePr l r = true) := Lib.hid (by rw [← HEq.out, List.drop_eq_nil_of_le (by rw [HM1.out]; exact Nat.le_refl _), List.drop_eq_nil_of_le (by rw [HM2.out]; exact Nat.le_refl _)]; rfl)
        go_wp2_with fail
        go_ret
        exact ⟨ret_bool HT.out.symm, hbw⟩
  · have hneq : ((l.length : Int) != (r.length : Int)) = true := by simp; omega
    have HF : Hid (sameF samePr l r = false) := Lib.hid (by exact sameF_len _ hlen)
    clear hlen
    go_enter Tryd.func39, Tryd.ntmps39
    go_wp2
    go_ret
    exact ⟨ret_bool HF.out.symm, Below.refl _ _⟩
set_option maxRecDepth 100000 in
set_option maxHeartbeats 6400000 in
theorem same_any (n : Nat) (p r : Pg) (vE vV vP vM uE uV uP uM : Value) (P : Nat → Prop) (W : World) (hv : PgR P n W p vE vV vP vM) (hu : PgR P n W r uE uV uP uM) (hP : ∀ b, P b → b < W.heap.size) : Calls Tryd.prog 16 #[pgV vE vV vP vM, pgV uE uV uP uM] W (fun e w' => e = .returned (.bool (samePg p r)) ∧ Below W.heap.size W w') := by
  obtain ⟨q1, hq1⟩ : ∃ q, q = sameF sameEn p.enums r.enums := ⟨_, rfl⟩
  obtain ⟨q2, hq2⟩ : ∃ q, q = sameF sameVr p.vars r.vars := ⟨_, rfl⟩
  obtain ⟨q3, hq3⟩ : ∃ q, q = sameF samePr p.procs r.procs := ⟨_, rfl⟩
  obtain ⟨q4, hq4⟩ : ∃ q, q = sameB p.main r.main := ⟨_, rfl⟩
  have HX : Hid (samePg p r = (q1 && (q2 && (q3 && q4)))) := Lib.hid (by rw [hq1, hq2, hq3, hq4]; rfl)
  have HC1 : Hid (∀ w2, Below W.heap.size W w2 → Calls Tryd.prog 36 #[vE, uE, .func (.func 37) #[] #[]] w2 (fun e w' => e = .returned (.bool q1) ∧ Below w2.heap.size w2 w')) := Lib.hid fun w2 hb2 => by
    rw [hq1]
    exact enumsEq_any _ _ _ _ P w2 (hv.below hb2 hP).en (hu.below hb2 hP).en (lo_up hP hb2.size)
  have HC2 : Hid (∀ w2, Below W.heap.size W w2 → Calls Tryd.prog 38 #[vV, uV] w2 (fun e w' => e = .returned (.bool q2) ∧ Below w2.heap.size w2 w')) := Lib.hid fun w2 hb2 => by
    rw [hq2]
    exact eqVars_any _ _ _ _ P w2 (hv.below hb2 hP).va (hu.below hb2 hP).va (lo_up hP hb2.size)
  have HC3 : Hid (∀ w2, Below W.heap.size W w2 → Calls Tryd.prog 39 #[vP, uP, .func (.func 40) #[] #[]] w2 (fun e w' => e = .returned (.bool q3) ∧ Below w2.heap.size w2 w')) := Lib.hid fun w2 hb2 => by
    rw [hq3]
    exact procsEq_any n _ _ _ _ P w2 (hv.below hb2 hP).pr (hu.below hb2 hP).pr (lo_up hP hb2.size)
  have HC4 : Hid (∀ w2, Below W.heap.size W w2 → Calls Tryd.prog 41 #[vM, uM] w2 (fun e w' => e = .returned (.bool q4) ∧ Below w2.heap.size w2 w')) := Lib.hid fun w2 hb2 => by
    rw [hq4]
    exact sameBlock_any n _ _ _ _ P w2 (hv.below hb2 hP).mn (hu.below hb2 hP).mn (lo_up hP hb2.size)
  obtain ⟨A1, c1, rfl, -, -⟩ := hv.en.slice
  obtain ⟨A2, c2, rfl, -, -⟩ := hv.va.slice
  obtain ⟨A3, c3, rfl, -, -⟩ := hv.pr.slice
  obtain ⟨A4, c4, rfl, -, -⟩ := hv.mn.slice
  obtain ⟨B1, d1, rfl, -, -⟩ := hu.en.slice
  obtain ⟨B2, d2, rfl, -, -⟩ := hu.va.slice
  obtain ⟨B3, d3, rfl, -, -⟩ := hu.pr.slice
  obtain ⟨B4, d4, rfl, -, -⟩ := hu.mn.slice
  obtain ⟨W0, hW0⟩ : ∃ W0, W0 = ((W.alloc (.cells #[.slice A1 p.enums.length c1, .slice A2 p.vars.length c2, .slice A3 p.procs.length c3, .slice A4 p.main.length c4] 35)).alloc (.cells #[.slice B1 r.enums.length d1, .slice B2 r.vars.length d2, .slice B3 r.procs.length d3, .slice B4 r.main.length d4] 35)) := ⟨_, rfl⟩
  have HK1 : Hid (Blk W0 W.heap.size 35 #[.slice A1 p.enums.length c1, .slice A2 p.vars.length c2, .slice A3 p.procs.length c3, .slice A4 p.main.length c4]) := Lib.hid (by rw [hW0]; exact (Blk.new W _ _).below ((Below.refl _ _).alloc (Nat.le_refl _) _) (Blk.new W _ _).lt)
  have HK2 : Hid (Blk W0 (W.heap.size + 1) 35 #[.slice B1 r.enums.length d1, .slice B2 r.vars.length d2, .slice B3 r.procs.length d3, .slice B4 r.main.length d4]) := Lib.hid (by
    have := Blk.new (W.alloc (.cells #[.slice A1 p.enums.length c1, .slice A2 p.vars.length c2, .slice A3 p.procs.length c3, .slice A4 p.main.length c4] 35)) 35 #[.slice B1 r.enums.length d1, .slice B2 r.vars.length d2, .slice B3 r.procs.length d3, .slice B4 r.main.length d4]
    rw [World.size_alloc] at this
    rw [hW0]
    exact this)
  have HB : Hid (Below W.heap.size W W0) := Lib.hid (by rw [hW0]; exact thru ((Below.refl _ _).alloc (Nat.le_refl _) _) ((Below.refl _ _).alloc (Nat.le_refl _) _))
  have HW0 := Lib.hid hW0
  rw [HX.out]
  clear hv hu hq1 hq2 hq3 hq4 hW0 hP
  have x0 := HK1.out.cell 0
  have y0 := HK2.out.cell 0
  simp at x0 y0
  have HCell : Hid (∀ w', Below W0.heap.size W0 w' → (w'.cell? ⟨W.heap.size, 1, none⟩ = some (.slice A2 p.vars.length c2) ∧ w'.cell? ⟨W.heap.size, 2, none⟩ = some (.slice A3 p.procs.length c3) ∧ w'.cell? ⟨W.heap.size, 3, none⟩ = some (.slice A4 p.main.length c4)) ∧ w'.cell? ⟨W.heap.size + 1, 1, none⟩ = some (.slice B2 r.vars.length d2) ∧ w'.cell? ⟨W.heap.size + 1, 2, none⟩ = some (.slice B3 r.procs.length d3) ∧ w'.cell? ⟨W.heap.size + 1, 3, none⟩ = some (.slice B4 r.main.length d4)) := Lib.hid fun w' hb => ⟨⟨(HK1.out.below hb HK1.out.lt).cell 1, (HK1.out.below hb HK1.out.lt).cell 2, (HK1.out.below hb HK1.out.lt).cell 3⟩, (HK2.out.below hb HK2.out.lt).cell 1, (HK2.out.below hb HK2.out.lt).cell 2, (HK2.out.below hb HK2.out.lt).cell 3⟩
  cases q1 <;> cases q2 <;> cases q3
  all_goals
    go_enter Tryd.func16, Tryd.ntmps16
    go_upto_region 1 with fail
    rw [← HW0.out]
    go_wp2_with (first
      | (go_at_call 36; with_reducible refine (HC1.out _ HB.out).mono ?_; rintro e w1 ⟨rfl, hb⟩; have HB3 := Lib.hid (thru HB.out hb); have HD3 := Lib.hid hb; obtain ⟨⟨p1, p2, p3⟩, p4, p5, p6⟩ := HCell.out _ hb; clear hb x0 y0)
      | (go_at_call 38; with_reducible refine (HC2.out _ HB3.out).mono ?_; rintro e w2 ⟨rfl, hb⟩; have HB4 := Lib.hid (thru HB3.out hb); have HD4 := Lib.hid (thru HD3.out hb); obtain ⟨⟨r1, r2, r3⟩, r4, r5, r6⟩ := HCell.out _ HD4.out; clear hb p1 p2 p3 p4 p5 p6)
      | (go_at_call 39; with_reducible refine (HC3.out _ HB4.out).mono ?_; rintro e w3 ⟨rfl, hb⟩; have HB5 := Lib.hid (thru HB4.out hb); have HD5 := Lib.hid (thru HD4.out hb); obtain ⟨⟨s1, s2, s3⟩, s4, s5, s6⟩ := HCell.out _ HD5.out; clear hb r1 r2 r3 r4 r5 r6)
      | (go_at_call 41; with_reducible refine (HC4.out _ HB5.out).mono ?_; rintro e w4 ⟨rfl, hb⟩; have HB6 := Lib.hid (thru HB5.out hb); clear hb))
    go_ret
    first
      | exact ⟨rfl, HB6.out⟩
      | exact ⟨rfl, HB5.out⟩
      | exact ⟨rfl, HB4.out⟩
      | exact ⟨rfl, HB3.out⟩
end
end Go.Proofs.YtklfcjimgnnlfaaDoor
