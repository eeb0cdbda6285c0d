/- The tree layer: statements that stood elsewhere. -/
import Derived.Test.YtklfcjimgnnlfaaDoorTrMovedE
import Derived.Test.YtklfcjimgnnlfaaDoorTrStmts
namespace Go.Proofs.YtklfcjimgnnlfaaDoor
open Go.RowKit
mutual
def mvS (d : Int) : St → St
  | .mk o nm e A B a => .mk o nm (mvL d e) (mvB d A) (mvB d B) (IntKind.i64.wrap (a + d))
def mvB (d : Int) : List St → List St
  | [] => []
  | s :: r => mvS d s :: mvB d r
end
theorem mvB_map (d : Int) (l : List St) : mvB d l = l.map (mvS d) := by
  induction l with
  | nil => rfl
  | cons x l ih => simp only [mvB, List.map_cons, ih]
theorem mvB_len (d : Int) (l : List St) : (mvB d l).length = l.length := by rw [mvB_map, List.length_map]
theorem mvS_X (d : Int) (x : St) : mvS d x = .mk x.op x.nm (mvL d x.e) (mvB d x.A) (mvB d x.B) (IntKind.i64.wrap (x.a + d)) := by cases x; rfl
section
attribute [local go_sem ↓] Go.wp_at_zero Go.wp_at_succ
set_option maxRecDepth 100000 in
set_option maxHeartbeats 25600000 in
theorem movedS_any (d : Int) (n : Nat) : ∀ (l : List St) (v : Value) (P : Nat → Prop) (W : World), StR P n W l v → (∀ b, P b → b < W.heap.size) → Calls Tryd.prog 15 #[v, .int .i64 d] W (fun e w' => ∃ u, e = .returned u ∧ StR (fun b => W.heap.size ≤ b ∧ b < w'.heap.size) n w' (mvB d l) u ∧ Below W.heap.size W w') := by
  induction n with
  | zero => intro l v P W h; exact h.elim
  | succ n ih =>
    intro l v P W h hP
    obtain ⟨A, cap, rfl, hc, hl, hat⟩ := h
    have HAt := Lib.hid hat
    have HIH := Lib.hid ih
    have HLim := Lib.hid hl
    have hl2 : l.length ≤ 2199023255552 := by omega
    obtain ⟨i0, hi0, hz0, hz1, hz2⟩ := info_parts tinfo
    have HI0 := Lib.hid (And.intro hi0 (And.intro hz0 (And.intro hz1 hz2)))
    clear hat ih hl hi0 hz0 hz1 hz2
    obtain ⟨m, hm⟩ : ∃ m, l.length = m := ⟨_, rfl⟩
    have HM := Lib.hid hm
    rw [hm] at hl2 hc HLim ⊢
    clear hm
    go_enter Tryd.func15, Tryd.ntmps15
    go_wp2
    go_loopw [5, 11] (fun v i wr => ∃ k : Nat, i = .int .i64 (k : Int) ∧ k ≤ m ∧ OwnL (kSt n) 60 6 W.heap.size wr v (mvB d (l.take k)) ∧ Below W.heap.size W wr) (fun _ i _ => m - (RowKit.intOf i).toNat)
    case atStart => exact ⟨0, rfl, Nat.zero_le _, by rw [List.take_zero]; exact OwnL.nil _ _, Below.refl _ _⟩
    case round =>
      obtain ⟨k, rfl, hk, hown, hbw⟩ := hrel
      have HOw := Lib.hid hown
      have HBw := Lib.hid hbw
      clear hown hbw
      by_cases hlt : k < m
      · obtain ⟨x, hx⟩ : ∃ x, l[k]? = some x := ⟨l[k]'(by rw [HM.out]; exact hlt), List.getElem?_eq_getElem _⟩
        obtain ⟨b, off, LE, LA, LB, rfl, hbB, hat, hi2, hE, hA, hB'⟩ := HAt.out k x hx
        obtain ⟨x0, x1, x2, x3, x4, x5⟩ := hat.below HBw.out (hP b hbB)
        obtain ⟨Ae, ce, rfl, -, -⟩ := hE.slice
        obtain ⟨Aa, ca, rfl, -, -⟩ := hA.slice
        obtain ⟨Ab, cb, rfl, -, -⟩ := hB'.slice
        have HX := Lib.hid hx
        have HTl : Hid ((mvB d (l.take k)).length = k) := Lib.hid (by rw [mvB_len, List.length_take, HM.out]; omega)
        obtain ⟨Wa, hWa⟩ : ∃ Wa, Wa = wr.alloc (.cells #[.string x.op, .string x.nm, .slice Ae x.e.length ce, .slice Aa x.A.length ca, .slice Ab x.B.length cb, .int .i64 x.a] 60) := ⟨_, rfl⟩
        obtain ⟨W1, hW1⟩ : ∃ W1, W1 = Wa.alloc (.cells #[.string x.op, .string x.nm, .slice Ae x.e.length ce, .slice Aa x.A.length ca, .slice Ab x.B.length cb, .int .i64 x.a] 60) := ⟨_, rfl⟩
        have hba : Below wr.heap.size wr Wa := by rw [hWa]; exact (Below.refl _ _).alloc (Nat.le_refl _) _
        have hbb : Below Wa.heap.size Wa W1 := by rw [hW1]; exact (Below.refl _ _).alloc (Nat.le_refl _) _
        have hsa : Wa.heap.size = wr.heap.size + 1 := by rw [hWa, World.size_alloc]
        have hka : Blk Wa wr.heap.size 60 #[.string x.op, .string x.nm, .slice Ae x.e.length ce, .slice Aa x.A.length ca, .slice Ab x.B.length cb, .int .i64 x.a] := by rw [hWa]; exact Blk.new wr _ _
        have K7 : Hid (Blk W1 wr.heap.size 60 #[.string x.op, .string x.nm, .slice Ae x.e.length ce, .slice Aa x.A.length ca, .slice Ab x.B.length cb, .int .i64 x.a]) := Lib.hid (hka.below hbb hka.lt)
        have K8 : Hid (Blk W1 (wr.heap.size + 1) 60 #[.string x.op, .string x.nm, .slice Ae x.e.length ce, .slice Aa x.A.length ca, .slice Ab x.B.length cb, .int .i64 x.a]) := Lib.hid (by rw [hW1, ← hsa]; exact Blk.new Wa _ _)
        have HB1 := Lib.hid (thru hba hbb)
        have HS1 : Hid (W1.heap.size = wr.heap.size + 1 + 1) := Lib.hid (by rw [hW1, World.size_alloc, hsa])
        have HW1 : Hid (W1 = (wr.alloc (.cells #[.string x.op, .string x.nm, .slice Ae x.e.length ce, .slice Aa x.A.length ca, .slice Ab x.B.length cb, .int .i64 x.a] 60)).alloc (.cells #[.string x.op, .string x.nm, .slice Ae x.e.length ce, .slice Aa x.A.length ca, .slice Ab x.B.length cb, .int .i64 x.a] 60)) := Lib.hid (by rw [← hWa]; exact hW1)
        have HQ : Hid (∀ w2, Below W1.heap.size W1 w2 → Below W.heap.size W w2) := Lib.hid fun w2 hb2 => thru (thru HBw.out HB1.out) hb2
        have HCa : Hid (∀ w2, Below W1.heap.size W1 w2 → Calls Tryd.prog 15 #[.slice Aa x.A.length ca, .int .i64 d] w2 (fun e w' => ∃ u, e = .returned u ∧ StR (fun b => w2.heap.size ≤ b ∧ b < w'.heap.size) n w' (mvB d x.A) u ∧ Below w2.heap.size w2 w')) := Lib.hid fun w2 hb2 => HIH.out x.A _ P w2 (hA.below (HQ.out w2 hb2) hP) (lo_up hP (HQ.out w2 hb2).size)
        have HCb : Hid (∀ w2, Below W1.heap.size W1 w2 → Calls Tryd.prog 15 #[.slice Ab x.B.length cb, .int .i64 d] w2 (fun e w' => ∃ u, e = .returned u ∧ StR (fun b => w2.heap.size ≤ b ∧ b < w'.heap.size) n w' (mvB d x.B) u ∧ Below w2.heap.size w2 w')) := Lib.hid fun w2 hb2 => HIH.out x.B _ P w2 (hB'.below (HQ.out w2 hb2) hP) (lo_up hP (HQ.out w2 hb2).size)
        have HCe : Hid (∀ w2, Below W1.heap.size W1 w2 → Calls Tryd.prog 35 #[.slice Ae x.e.length ce, .int .i64 d] w2 (fun e w' => ∃ u, e = .returned u ∧ ExR (fun b => w2.heap.size ≤ b ∧ b < w'.heap.size) n w' (mvL d x.e) u ∧ Below w2.heap.size w2 w')) := Lib.hid fun w2 hb2 => movedE_any d n x.e _ P w2 (hE.below (HQ.out w2 hb2) hP) (lo_up hP (HQ.out w2 hb2).size)
        have HSK : Hid (∀ w', Blk w' wr.heap.size 60 #[.string x.op, .string x.nm, .slice Ae x.e.length ce, .slice Aa x.A.length ca, .slice Ab x.B.length cb, .int .i64 x.a] → (w'.cell? ⟨wr.heap.size, 2, none⟩ = some (.slice Ae x.e.length ce) ∧ w'.cell? ⟨wr.heap.size, 3, none⟩ = some (.slice Aa x.A.length ca) ∧ w'.cell? ⟨wr.heap.size, 4, none⟩ = some (.slice Ab x.B.length cb) ∧ w'.cell? ⟨wr.heap.size, 5, none⟩ = some (.int .i64 x.a))) := Lib.hid fun w' h => ⟨h.cell 2, h.cell 3, h.cell 4, h.cell 5⟩
        have HSB : Hid (∀ w', Below W1.heap.size W1 w' → (w'.cell? ⟨wr.heap.size, 2, none⟩ = some (.slice Ae x.e.length ce) ∧ w'.cell? ⟨wr.heap.size, 3, none⟩ = some (.slice Aa x.A.length ca) ∧ w'.cell? ⟨wr.heap.size, 4, none⟩ = some (.slice Ab x.B.length cb) ∧ w'.cell? ⟨wr.heap.size, 5, none⟩ = some (.int .i64 x.a))) := Lib.hid fun w' hb => HSK.out w' (K7.out.below hb K7.out.lt)
        have B1 : Hid (Below W1.heap.size W1 W1.drew) := Lib.hid (Below.refl _ _).drew
        have S0 := Lib.hid (HSB.out _ B1.out)
        clear hat hE hA hB' hi2 hx hWa hW1 hba hbb hsa hka
        obtain ⟨a9, ha9⟩ : ∃ a9, a9 = IntKind.i64.wrap (x.a + d) := ⟨_, rfl⟩
        have HA9 := Lib.hid ha9
        have g9 : IntKind.i64.wrap (x.a + d) = a9 := ha9.symm
        clear ha9
        go_upto_region 6 with fail
        rw [← HW1.out]
        clear x0 x1 x2 x3 x4 x5
        go_region_held3 (fun w' => (w'.cell? ⟨wr.heap.size, 2, none⟩ = some (.slice Ae x.e.length ce) ∧ w'.cell? ⟨wr.heap.size, 3, none⟩ = some (.slice Aa x.A.length ca) ∧ w'.cell? ⟨wr.heap.size, 4, none⟩ = some (.slice Ab x.B.length cb) ∧ w'.cell? ⟨wr.heap.size, 5, none⟩ = some (.int .i64 x.a)))
          (first | (with_reducible exact S0.out) | (with_reducible exact S1.out) | (with_reducible exact S2.out) | (with_reducible exact S3.out) | (with_reducible exact S5.out) | (with_reducible exact S6.out) | (with_reducible exact S7.out) | (with_reducible exact S8.out))
          (first
          | (go_at_call 15; have HX2 := HCa.out _ B1.out; (with_reducible refine HX2.mono ?_); clear HX2; rintro e w2 ⟨u2, rfl, hu, hb⟩; obtain ⟨A2, c2, rfl, -, -⟩ := hu.slice; have B2 := Lib.hid (thru B1.out hb); have R2 := Lib.hid hu; have S1 := Lib.hid (HSB.out _ B2.out); clear hb hu)
          | (go_at_call 15; have HX2 := HCb.out _ B2.out; (with_reducible refine HX2.mono ?_); clear HX2; rintro e w3 ⟨u3, rfl, hu, hb⟩; obtain ⟨A3, c3, rfl, -, -⟩ := hu.slice; have B3 := Lib.hid (thru B2.out hb); have D3 := Lib.hid hb; have R3 := Lib.hid hu; have S2 := Lib.hid (HSB.out _ B3.out); clear hb hu)
          | (go_at_call 35; have HX2 := HCe.out _ B3.out; (with_reducible refine HX2.mono ?_); clear HX2; rintro e w4 ⟨u4, rfl, hu, hb⟩; obtain ⟨A4, c4, rfl, -, -⟩ := hu.slice; have B4 := Lib.hid (thru B3.out hb); have D4 := Lib.hid hb; have R4 := Lib.hid hu; have S3 := Lib.hid (HSB.out _ B4.out); have K82 := Lib.hid (K8.out.below B4.out K8.out.lt); have f2 := K82.out.frozen 2; have f3 := K82.out.frozen 3; have f4 := K82.out.frozen 4; have f5 := K82.out.frozen 5; have fl := K82.out.lt; have s2 := K82.out.cell 2; have s3 := K82.out.cell 3; have s4 := K82.out.cell 4; have s5 := K82.out.cell 5; simp at s2 s3 s4 s5; have K72 := Lib.hid ((K7.out.below B4.out K7.out.lt).far (p := ⟨wr.heap.size + 1, 5, none⟩) (Nat.ne_of_lt (Nat.lt_succ_self _)) (.int .i64 a9)); have S5 := Lib.hid (HSK.out _ K72.out); have K73 := Lib.hid (K72.out.far (p := ⟨wr.heap.size + 1, 3, none⟩) (Nat.ne_of_lt (Nat.lt_succ_self _)) (.slice A2 (mvB d x.A).length c2)); have S6 := Lib.hid (HSK.out _ K73.out); have K74 := Lib.hid (K73.out.far (p := ⟨wr.heap.size + 1, 4, none⟩) (Nat.ne_of_lt (Nat.lt_succ_self _)) (.slice A3 (mvB d x.B).length c3)); have S7 := Lib.hid (HSK.out _ K74.out); have K75 := Lib.hid (K74.out.far (p := ⟨wr.heap.size + 1, 2, none⟩) (Nat.ne_of_lt (Nat.lt_succ_self _)) (.slice A4 (mvL d x.e).length c4)); have S8 := Lib.hid (HSK.out _ K75.out); clear hb hu))
        go_upto_region 7 with fail
        have K84 := Lib.hid ((((K82.out.set_ 5 (.int .i64 a9)).set_ 3 (.slice A2 (mvB d x.A).length c2)).set_ 4 (.slice A3 (mvB d x.B).length c3)).set_ 2 (.slice A4 (mvL d x.e).length c4))
        have B8 : Hid (Below wr.heap.size wr ((((w4.setCell ⟨wr.heap.size + 1, 5, none⟩ (.int .i64 a9)).setCell ⟨wr.heap.size + 1, 3, none⟩ (.slice A2 (mvB d x.A).length c2)).setCell ⟨wr.heap.size + 1, 4, none⟩ (.slice A3 (mvB d x.B).length c3)).setCell ⟨wr.heap.size + 1, 2, none⟩ (.slice A4 (mvL d x.e).length c4))) := Lib.hid (((((thru HB1.out B4.out).setCell (p := ⟨wr.heap.size + 1, 5, none⟩) (Nat.le_succ _) _).setCell (p := ⟨wr.heap.size + 1, 3, none⟩) (Nat.le_succ _) _).setCell (p := ⟨wr.heap.size + 1, 4, none⟩) (Nat.le_succ _) _).setCell (p := ⟨wr.heap.size + 1, 2, none⟩) (Nat.le_succ _) _)
        have RA : Hid (StR (fun b => W1.heap.size ≤ b ∧ b < w4.heap.size) n ((((w4.setCell ⟨wr.heap.size + 1, 5, none⟩ (.int .i64 a9)).setCell ⟨wr.heap.size + 1, 3, none⟩ (.slice A2 (mvB d x.A).length c2)).setCell ⟨wr.heap.size + 1, 4, none⟩ (.slice A3 (mvB d x.B).length c3)).setCell ⟨wr.heap.size + 1, 2, none⟩ (.slice A4 (mvL d x.e).length c4)) (mvB d x.A) (.slice A2 (mvB d x.A).length c2)) := Lib.hid ((((R2.out.below D3.out (fun b q => q.2)).below D4.out (fun b q => Nat.lt_of_lt_of_le q.2 D3.out.size)).wide (fun b q => ⟨Nat.le_trans B1.out.size q.1, Nat.lt_of_lt_of_le (Nat.lt_of_lt_of_le q.2 D3.out.size) D4.out.size⟩)).kept (fun b q => by
          have hne : b ≠ wr.heap.size + 1 := by have := HS1.out; have := q.1; omega
          rw [Below.heap_setCell _ _ _ _ hne, Below.heap_setCell _ _ _ _ hne, Below.heap_setCell _ _ _ _ hne, Below.heap_setCell _ _ _ _ hne]))
        have RB : Hid (StR (fun b => W1.heap.size ≤ b ∧ b < w4.heap.size) n ((((w4.setCell ⟨wr.heap.size + 1, 5, none⟩ (.int .i64 a9)).setCell ⟨wr.heap.size + 1, 3, none⟩ (.slice A2 (mvB d x.A).length c2)).setCell ⟨wr.heap.size + 1, 4, none⟩ (.slice A3 (mvB d x.B).length c3)).setCell ⟨wr.heap.size + 1, 2, none⟩ (.slice A4 (mvL d x.e).length c4)) (mvB d x.B) (.slice A3 (mvB d x.B).length c3)) := Lib.hid (((R3.out.below D4.out (fun b q => q.2)).wide (fun b q => ⟨Nat.le_trans B2.out.size q.1, Nat.lt_of_lt_of_le q.2 D4.out.size⟩)).kept (fun b q => by
          have hne : b ≠ wr.heap.size + 1 := by have := HS1.out; have := q.1; omega
          rw [Below.heap_setCell _ _ _ _ hne, Below.heap_setCell _ _ _ _ hne, Below.heap_setCell _ _ _ _ hne, Below.heap_setCell _ _ _ _ hne]))
        have RE : Hid (ExR (fun b => W1.heap.size ≤ b ∧ b < w4.heap.size) n ((((w4.setCell ⟨wr.heap.size + 1, 5, none⟩ (.int .i64 a9)).setCell ⟨wr.heap.size + 1, 3, none⟩ (.slice A2 (mvB d x.A).length c2)).setCell ⟨wr.heap.size + 1, 4, none⟩ (.slice A3 (mvB d x.B).length c3)).setCell ⟨wr.heap.size + 1, 2, none⟩ (.slice A4 (mvL d x.e).length c4)) (mvL d x.e) (.slice A4 (mvL d x.e).length c4)) := Lib.hid ((R4.out.wide (fun b q => ⟨Nat.le_trans B3.out.size q.1, q.2⟩)).kept (fun b q => by
          have hne : b ≠ wr.heap.size + 1 := by have := HS1.out; have := q.1; omega
          rw [Below.heap_setCell _ _ _ _ hne, Below.heap_setCell _ _ _ _ hne, Below.heap_setCell _ _ _ _ hne, Below.heap_setCell _ _ _ _ hne]))
        obtain ⟨w8, hw8⟩ : ∃ w8, w8 = ((((w4.setCell ⟨wr.heap.size + 1, 5, none⟩ (.int .i64 a9)).setCell ⟨wr.heap.size + 1, 3, none⟩ (.slice A2 (mvB d x.A).length c2)).setCell ⟨wr.heap.size + 1, 4, none⟩ (.slice A3 (mvB d x.B).length c3)).setCell ⟨wr.heap.size + 1, 2, none⟩ (.slice A4 (mvL d x.e).length c4)) := ⟨_, rfl⟩
        have HSz : Hid (w8.heap.size = w4.heap.size) := Lib.hid (by rw [hw8]; simp [World.setCell])
        rw [← hw8] at K84 B8 RA RB RE ⊢
        clear hw8 f2 f3 f4 f5 fl s2 s3 s4 s5 K72 K73 K74 K75 S0 S1 S2 S3 S5 S6 S7 S8
        have K85 : Hid (Blk w8 (wr.heap.size + 1) 60 #[.string x.op, .string x.nm, .slice A4 (mvL d x.e).length c4, .slice A2 (mvB d x.A).length c2, .slice A3 (mvB d x.B).length c3, .int .i64 a9]) := Lib.hid K84.out
        have q0 := K85.out.cell 0
        have q1 := K85.out.cell 1
        have q2 := K85.out.cell 2
        have q3 := K85.out.cell 3
        have q4 := K85.out.cell 4
        have q5 := K85.out.cell 5
        simp at q0 q1 q2 q3 q4 q5
        have HO9 := Lib.hid ((HOw.out.below B8.out).below ((Below.refl _ _).alloc (Nat.le_refl _) (.cells #[.string x.op, .string x.nm, .slice A4 (mvL d x.e).length c4, .slice A2 (mvB d x.A).length c2, .slice A3 (mvB d x.B).length c3, .int .i64 a9] 60)))
        have N9 := Lib.hid (Blk.new w8 60 #[.string x.op, .string x.nm, .slice A4 (mvL d x.e).length c4, .slice A2 (mvB d x.A).length c2, .slice A3 (mvB d x.B).length c3, .int .i64 a9])
        have BA : Hid (Below w8.heap.size w8 (w8.alloc (.cells #[.string x.op, .string x.nm, .slice A4 (mvL d x.e).length c4, .slice A2 (mvB d x.A).length c2, .slice A3 (mvB d x.B).length c3, .int .i64 a9] 60))) := Lib.hid ((Below.refl _ _).alloc (Nat.le_refl _) _)
        have HLo : Hid (∀ b, W1.heap.size ≤ b ∧ b < w4.heap.size → W.heap.size ≤ b ∧ b < (w8.alloc (.cells #[.string x.op, .string x.nm, .slice A4 (mvL d x.e).length c4, .slice A2 (mvB d x.A).length c2, .slice A3 (mvB d x.B).length c3, .int .i64 a9] 60)).heap.size ∧ u5.ownBlock ≠ some b) := Lib.hid fun b q => ⟨Nat.le_trans (Nat.le_trans HBw.out.size HB1.out.size) q.1, Nat.lt_of_lt_of_le (by rw [HSz.out]; exact q.2) BA.out.size, fun e => absurd (HOw.out.lt b e).2 (Nat.not_lt.2 (Nat.le_trans HB1.out.size q.1))⟩
        have HGd : Hid (([.string x.op, .string x.nm, .slice A4 (mvL d x.e).length c4, .slice A2 (mvB d x.A).length c2, .slice A3 (mvB d x.B).length c3, .int .i64 a9] : List Value).length = 6 ∧ (kSt n).good (fun b => W.heap.size ≤ b ∧ b < (w8.alloc (.cells #[.string x.op, .string x.nm, .slice A4 (mvL d x.e).length c4, .slice A2 (mvB d x.A).length c2, .slice A3 (mvB d x.B).length c3, .int .i64 a9] 60)).heap.size ∧ u5.ownBlock ≠ some b) (w8.alloc (.cells #[.string x.op, .string x.nm, .slice A4 (mvL d x.e).length c4, .slice A2 (mvB d x.A).length c2, .slice A3 (mvB d x.B).length c3, .int .i64 a9] 60)) (mvS d x) [.string x.op, .string x.nm, .slice A4 (mvL d x.e).length c4, .slice A2 (mvB d x.A).length c2, .slice A3 (mvB d x.B).length c3, .int .i64 a9]) := Lib.hid (by
          rw [mvS_X]
          exact ⟨rfl, _, _, _, by rw [HA9.out]; rfl, in64_wrap _, (RE.out.below BA.out (fun b q => by rw [HSz.out]; exact q.2)).wide HLo.out, (RA.out.below BA.out (fun b q => by rw [HSz.out]; exact q.2)).wide HLo.out, (RB.out.below BA.out (fun b q => by rw [HSz.out]; exact q.2)).wide HLo.out⟩)
        obtain ⟨css, hcs1, hcs2, hcs3⟩ := HO9.out
        rw [HTl.out] at hcs2
        have C1 := Lib.hid hcs1
        have C2 := Lib.hid hcs2
        have C3 := Lib.hid hcs3
        have BW9 : Hid (Below W.heap.size W (w8.alloc (.cells #[.string x.op, .string x.nm, .slice A4 (mvL d x.e).length c4, .slice A2 (mvB d x.A).length c2, .slice A3 (mvB d x.B).length c3, .int .i64 a9] 60))) := Lib.hid (thru (thru HBw.out B8.out) BA.out)
        clear hcs1 hcs2 hcs3
        go_wp2_with (at_builtin; refine wpList_append_at rfl _ _ 33 rfl W.heap.size 60 i0 (.agg #[.string ⟨#[]⟩, .string ⟨#[]⟩, .slice none 0 0, .slice none 0 0, .slice none 0 0, .int .i64 0]) 6 112 Tryd.underlying33 HI0.out.1 HI0.out.2.1 HI0.out.2.2.1 HI0.out.2.2.2 rfl (by decide) u5 k css.flatten rfl C2.out ⟨w8.heap.size, 0, none⟩ 1 1 [.string x.op, .string x.nm, .slice A4 (mvL d x.e).length c4, .slice A2 (mvB d x.A).length c2, .slice A3 (mvB d x.B).length c3, .int .i64 a9] rfl rfl (news_six N9.out) (one_six _ _ _ _ _ _ _ _ _ _ _ _) (by unfold maxLen; omega) (by have := HLim.out; omega) BW9.out.size ?_; intro v5 w5 ho hg hv; have O5 : Hid (OwnL (kSt n) 60 6 W.heap.size w5 v5 (mvB d (l.take k) ++ [mvS d x])) := Lib.hid (OwnL.more C1.out C3.out (by rw [HTl.out]; exact ho) hg hv HGd.out.1 HGd.out.2); have B5 : Hid (Below W.heap.size W w5) := Lib.hid (Below.grown BW9.out hg BW9.out.size (fun g e => (C2.out.lt g e).1)); clear ho hg hv)
        have HMo : Hid (mvB d (l.take (k + 1)) = mvB d (l.take k) ++ [mvS d x]) := Lib.hid (by rw [take_one HX.out, mvB_map, mvB_map, List.map_append]; rfl)
        rw [← HMo.out] at O5
        go_roundw
        case rel => exact ⟨k + 1, by go_num, hlt, O5.out, B5.out⟩
        case measure => simp [RowKit.intOf]; omega
      · have he : k = m := by omega
        subst he
        have hT : l.take k = l := by rw [← HM.out, List.take_length]
        have HO := HOw.out
        rw [hT] at HO
        have HZ := Lib.hid (own_st HO (by rw [mvB_len, HM.out]; exact HLim.out))
        obtain ⟨A9, c9, rfl⟩ : ∃ A9 c9, u5 = .slice A9 k c9 := by
          obtain ⟨A9, c9, e, -⟩ := HO.row
          rw [mvB_len, HM.out] at e
          exact ⟨_, _, e⟩
        clear HO hT
        go_wp2_with fail
        go_ret
        exact ⟨_, rfl, HZ.out, HBw.out⟩
end
/-! ### What stood elsewhere is the same -/
theorem mv_same (d : Int) : (∀ x : Ex, sameE x (mvE d x) = true) ∧ ∀ l : List Ex, sameL l (mvL d l) = true := by
  have key : ∀ n, (∀ x : Ex, szE x ≤ n → sameE x (mvE d x) = true) ∧ ∀ l : List Ex, szL l ≤ n → sameL l (mvL d l) = true := by
    intro n
    induction n with
    | zero =>
      have hx : ∀ x : Ex, ¬ szE x ≤ 0 := fun x => by cases x; simp only [szE]; omega
      refine ⟨fun x h => absurd h (hx x), fun l h => ?_⟩
      cases l with
      | nil => rfl
      | cons x l => exact absurd (show szE x ≤ 0 by simp only [szL] at h; omega) (hx x)
    | succ n ih =>
      have hx : ∀ x : Ex, szE x ≤ n + 1 → sameE x (mvE d x) = true := fun x h => by
        cases x with
        | mk o nm k l a =>
          simp only [szE] at h
          simp only [mvE, sameE, ih.2 l (by omega), beq_self_eq_true, Bool.and_self]
      refine ⟨hx, fun l => ?_⟩
      induction l with
      | nil => intro _; rfl
      | cons x l ihl =>
        intro h
        simp only [szL] at h
        simp only [mvL, sameL, hx x (by omega), ihl (by omega), Bool.and_self]
  exact ⟨fun x => (key _).1 x (Nat.le_refl _), fun l => (key _).2 l (Nat.le_refl _)⟩
theorem mvB_same (d : Int) : (∀ x : St, sameS x (mvS d x) = true) ∧ ∀ l : List St, sameB l (mvB d l) = true := by
  have key : ∀ n, (∀ x : St, szS x ≤ n → sameS x (mvS d x) = true) ∧ ∀ l : List St, szB l ≤ n → sameB l (mvB d l) = true := by
    intro n
    induction n with
    | zero =>
      have hx : ∀ x : St, ¬ szS x ≤ 0 := fun x => by cases x; simp only [szS]; omega
      refine ⟨fun x h => absurd h (hx x), fun l h => ?_⟩
      cases l with
      | nil => rfl
      | cons x l => exact absurd (show szS x ≤ 0 by simp only [szB] at h; omega) (hx x)
    | succ n ih =>
      have hx : ∀ x : St, szS x ≤ n + 1 → sameS x (mvS d x) = true := fun x h => by
        cases x with
        | mk o nm e A B a =>
          simp only [szS] at h
          simp only [mvS, sameS, (mv_same d).2 e, ih.2 A (by omega), ih.2 B (by omega), beq_self_eq_true, Bool.and_self]
      refine ⟨hx, fun l => ?_⟩
      induction l with
      | nil => intro _; rfl
      | cons x l ihl =>
        intro h
        simp only [szB] at h
        simp only [mvB, sameB, hx x (by omega), ihl (by omega), Bool.and_self]
  exact ⟨fun x => (key _).1 x (Nat.le_refl _), fun l => (key _).2 l (Nat.le_refl _)⟩
end Go.Proofs.YtklfcjimgnnlfaaDoor
