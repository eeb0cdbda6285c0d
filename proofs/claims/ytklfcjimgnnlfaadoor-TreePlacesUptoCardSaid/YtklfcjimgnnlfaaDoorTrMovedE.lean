/- The tree layer: expressions that stood elsewhere. -/
import Derived.Test.YtklfcjimgnnlfaaDoorTrExpr
import Derived.Deep.RegionHeld3
import Derived.Deep.DeepCutAuto
namespace Go.Proofs.YtklfcjimgnnlfaaDoor
open Go.RowKit
mutual
def mvE (d : Int) : Ex → Ex
  | .mk o nm k l a => .mk o nm k (mvL d l) (IntKind.i64.wrap (a + d))
def mvL (d : Int) : List Ex → List Ex
  | [] => []
  | e :: r => mvE d e :: mvL d r
end
theorem mvL_map (d : Int) (l : List Ex) : mvL d l = l.map (mvE d) := by
  induction l with
  | nil => rfl
  | cons x l ih => simp only [mvL, List.map_cons, ih]
theorem mvL_len (d : Int) (l : List Ex) : (mvL d l).length = l.length := by rw [mvL_map, List.length_map]
theorem mvE_X (d : Int) (x : Ex) : mvE d x = .mk x.op x.nm x.n (mvL d x.l) (IntKind.i64.wrap (x.a + d)) := by cases x; rfl
theorem in64_wrap (k : Int) : In64 (IntKind.i64.wrap k) := by
  unfold In64
  simp only [IntWalk.i64_left]
  unfold wrap64
  omega
section
attribute [local go_sem ↓] Go.wp_at_zero Go.wp_at_succ
set_option maxRecDepth 100000 in
set_option maxHeartbeats 12800000 in
theorem movedE_any (d : Int) (n : Nat) : ∀ (l : List Ex) (v : Value) (P : Nat → Prop) (W : World), ExR P n W l v → (∀ b, P b → b < W.heap.size) → Calls Tryd.prog 35 #[v, .int .i64 d] W (fun e w' => ∃ u, e = .returned u ∧ ExR (fun b => W.heap.size ≤ b ∧ b < w'.heap.size) n w' (mvL d l) u ∧ Below W.heap.size W w') := by
  induction n with
  | zero => intro l v P W h; exact h.elim
  | succ n ih =>
    intro l v P W h hP
    obtain ⟨A, cap, rfl, hc, hl, hat⟩ := h
    have HAt := Lib.hid hat
    have HIH := Lib.hid ih
    have HLim := Lib.hid hl
    have hl2 : l.length ≤ 2199023255552 := by omega
    obtain ⟨i0, hi0, hz0, hz1, hz2⟩ := info_parts einfo
    have HI0 := Lib.hid (And.intro hi0 (And.intro hz0 (And.intro hz1 hz2)))
    clear hat ih hl hi0 hz0 hz1 hz2
    obtain ⟨m, hm⟩ : ∃ m, l.length = m := ⟨_, rfl⟩
    have HM := Lib.hid hm
    rw [hm] at hl2 hc HLim ⊢
    clear hm
    go_enter Tryd.func35, Tryd.ntmps35
    go_wp2
    go_loopw [5, 11] (fun v i wr => ∃ k : Nat, i = .int .i64 (k : Int) ∧ k ≤ m ∧ OwnL (kEx n) 52 5 W.heap.size wr v (mvL d (l.take k)) ∧ Below W.heap.size W wr) (fun _ i _ => m - (RowKit.intOf i).toNat)
    case atStart => exact ⟨0, rfl, Nat.zero_le _, by rw [List.take_zero]; exact OwnL.nil _ _, Below.refl _ _⟩
    case round =>
      obtain ⟨k, rfl, hk, hown, hbw⟩ := hrel
      have HOw := Lib.hid hown
      have HBw := Lib.hid hbw
      clear hown hbw
      by_cases hlt : k < m
      · obtain ⟨x, hx⟩ : ∃ x, l[k]? = some x := ⟨l[k]'(by rw [HM.out]; exact hlt), List.getElem?_eq_getElem _⟩
        obtain ⟨b, off, L, rfl, hbB, hat, hi1, hi2, hr⟩ := HAt.out k x hx
        have HIn := Lib.hid hi1
        obtain ⟨x0, x1, x2, x3, x4⟩ := hat.below HBw.out (hP b hbB)
        obtain ⟨A', cap', rfl, hc', hlx⟩ := hr.slice
        have HX := Lib.hid hx
        have HTl : Hid ((mvL d (l.take k)).length = k) := Lib.hid (by rw [mvL_len, List.length_take, HM.out]; omega)
        obtain ⟨Wa, hWa⟩ : ∃ Wa, Wa = wr.alloc (.cells #[.string x.op, .string x.nm, .int .i64 x.n, .slice A' x.l.length cap', .int .i64 x.a] 52) := ⟨_, rfl⟩
        obtain ⟨W1, hW1⟩ : ∃ W1, W1 = Wa.alloc (.cells #[.string x.op, .string x.nm, .int .i64 x.n, .slice A' x.l.length cap', .int .i64 x.a] 52) := ⟨_, rfl⟩
        have hba : Below wr.heap.size wr Wa := by rw [hWa]; exact (Below.refl _ _).alloc (Nat.le_refl _) _
        have hbb : Below Wa.heap.size Wa W1 := by rw [hW1]; exact (Below.refl _ _).alloc (Nat.le_refl _) _
        have hsa : Wa.heap.size = wr.heap.size + 1 := by rw [hWa, World.size_alloc]
        have hka : Blk Wa wr.heap.size 52 #[.string x.op, .string x.nm, .int .i64 x.n, .slice A' x.l.length cap', .int .i64 x.a] := by rw [hWa]; exact Blk.new wr _ _
        have K7 : Hid (Blk W1 wr.heap.size 52 #[.string x.op, .string x.nm, .int .i64 x.n, .slice A' x.l.length cap', .int .i64 x.a]) := Lib.hid (hka.below hbb hka.lt)
        have K8 : Hid (Blk W1 (wr.heap.size + 1) 52 #[.string x.op, .string x.nm, .int .i64 x.n, .slice A' x.l.length cap', .int .i64 x.a]) := Lib.hid (by rw [hW1, ← hsa]; exact Blk.new Wa _ _)
        have HB1 := Lib.hid (thru hba hbb)
        have HS1 : Hid (W1.heap.size = wr.heap.size + 1 + 1) := Lib.hid (by rw [hW1, World.size_alloc, hsa])
        have HW1 : Hid (W1 = (wr.alloc (.cells #[.string x.op, .string x.nm, .int .i64 x.n, .slice A' x.l.length cap', .int .i64 x.a] 52)).alloc (.cells #[.string x.op, .string x.nm, .int .i64 x.n, .slice A' x.l.length cap', .int .i64 x.a] 52)) := Lib.hid (by rw [← hWa]; exact hW1)
        have HC : Hid (∀ w2, Below W1.heap.size W1 w2 → Calls Tryd.prog 35 #[.slice A' x.l.length cap', .int .i64 d] w2 (fun e w' => ∃ u, e = .returned u ∧ ExR (fun b => w2.heap.size ≤ b ∧ b < w'.heap.size) n w' (mvL d x.l) u ∧ Below w2.heap.size w2 w')) := Lib.hid fun w2 hb2 => by
          have q := thru (thru HBw.out HB1.out) hb2
          exact HIH.out x.l _ P w2 (hr.below q hP) (lo_up hP q.size)
        have HS7 : Hid (∀ w', Below W1.heap.size W1 w' → (w'.cell? ⟨wr.heap.size, 3, none⟩ = some (.slice A' x.l.length cap') ∧ w'.cell? ⟨wr.heap.size, 4, none⟩ = some (.int .i64 x.a))) := Lib.hid fun w' hb => ⟨(K7.out.below hb K7.out.lt).cell 3, (K7.out.below hb K7.out.lt).cell 4⟩
        have HSK : Hid (∀ w', Blk w' wr.heap.size 52 #[.string x.op, .string x.nm, .int .i64 x.n, .slice A' x.l.length cap', .int .i64 x.a] → (w'.cell? ⟨wr.heap.size, 3, none⟩ = some (.slice A' x.l.length cap') ∧ w'.cell? ⟨wr.heap.size, 4, none⟩ = some (.int .i64 x.a))) := Lib.hid fun w' h => ⟨h.cell 3, h.cell 4⟩
        have B1 : Hid (Below W1.heap.size W1 W1.drew) := Lib.hid (Below.refl _ _).drew
        have S0 := Lib.hid (HS7.out _ B1.out)
        have HLx := Lib.hid hlx
        clear hat hr hi1 hi2 hx hWa hW1 hba hbb hsa hka hlx
        obtain ⟨a9, ha9⟩ : ∃ a9, a9 = IntKind.i64.wrap (x.a + d) := ⟨_, rfl⟩
        have HA9 := Lib.hid ha9
        have g9 : IntKind.i64.wrap (x.a + d) = a9 := ha9.symm
        clear ha9
        go_upto_region 6 with fail
        rw [← HW1.out]
        clear x0 x1 x2 x3 x4
        go_region_held3 (fun w' => w'.cell? ⟨wr.heap.size, 3, none⟩ = some (.slice A' x.l.length cap') ∧ w'.cell? ⟨wr.heap.size, 4, none⟩ = some (.int .i64 x.a))
          (first | (with_reducible exact S0.out) | (with_reducible exact S1.out) | (with_reducible exact S2.out) | (with_reducible exact S3.out))
          (first
          | (go_at_call 35; have HX2 := HC.out _ B1.out; (with_reducible refine HX2.mono ?_); clear HX2; rintro e w2 ⟨u2, rfl, hu2, hb⟩; obtain ⟨A2, c2, rfl, -, -⟩ := hu2.slice; have B2 := Lib.hid (thru B1.out hb); have D2 := Lib.hid hb; have R2 := Lib.hid hu2; have S1 := Lib.hid (HS7.out _ B2.out); have K82 := Lib.hid (K8.out.below B2.out K8.out.lt); have f3 := K82.out.frozen 3; have f4 := K82.out.frozen 4; have fl := K82.out.lt; have s3 := K82.out.cell 3; have s4 := K82.out.cell 4; simp at s3 s4; have K72 := Lib.hid ((K7.out.below B2.out K7.out.lt).far (p := ⟨wr.heap.size + 1, 4, none⟩) (Nat.ne_of_lt (Nat.lt_succ_self _)) (.int .i64 a9)); have S2 := Lib.hid (HSK.out _ K72.out); have K73 := Lib.hid (K72.out.far (p := ⟨wr.heap.size + 1, 3, none⟩) (Nat.ne_of_lt (Nat.lt_succ_self _)) (.slice A2 (mvL d x.l).length c2)); have S3 := Lib.hid (HSK.out _ K73.out); clear hb hu2))
        go_upto_region 7 with fail
        have K84 := Lib.hid ((K82.out.set_ 4 (.int .i64 a9)).set_ 3 (.slice A2 (mvL d x.l).length c2))
        have B8 : Hid (Below wr.heap.size wr ((w2.setCell ⟨wr.heap.size + 1, 4, none⟩ (.int .i64 a9)).setCell ⟨wr.heap.size + 1, 3, none⟩ (.slice A2 (mvL d x.l).length c2))) := Lib.hid (((thru HB1.out B2.out).setCell (p := ⟨wr.heap.size + 1, 4, none⟩) (Nat.le_succ _) _).setCell (p := ⟨wr.heap.size + 1, 3, none⟩) (Nat.le_succ _) _)
        have R8 : Hid (ExR (fun b => W1.heap.size ≤ b ∧ b < w2.heap.size) n ((w2.setCell ⟨wr.heap.size + 1, 4, none⟩ (.int .i64 a9)).setCell ⟨wr.heap.size + 1, 3, none⟩ (.slice A2 (mvL d x.l).length c2)) (mvL d x.l) (.slice A2 (mvL d x.l).length c2)) := Lib.hid ((R2.out.wide (fun b q => ⟨Nat.le_trans B1.out.size q.1, q.2⟩)).kept (fun b q => by
          have hne : b ≠ wr.heap.size + 1 := by have := HS1.out; have := q.1; omega
          rw [Below.heap_setCell _ _ _ _ hne, Below.heap_setCell _ _ _ _ hne]))
        obtain ⟨w8, hw8⟩ : ∃ w8, w8 = (w2.setCell ⟨wr.heap.size + 1, 4, none⟩ (.int .i64 a9)).setCell ⟨wr.heap.size + 1, 3, none⟩ (.slice A2 (mvL d x.l).length c2) := ⟨_, rfl⟩
        have HSz : Hid (w8.heap.size = w2.heap.size) := Lib.hid (by rw [hw8]; simp [World.setCell])
        rw [← hw8] at K84 B8 R8 ⊢
        clear hw8 f3 f4 fl s3 s4 K72 K73 S1 S2 S3 S0
        have K85 : Hid (Blk w8 (wr.heap.size + 1) 52 #[.string x.op, .string x.nm, .int .i64 x.n, .slice A2 (mvL d x.l).length c2, .int .i64 (a9)]) := Lib.hid K84.out
        have q0 := K85.out.cell 0
        have q1 := K85.out.cell 1
        have q2 := K85.out.cell 2
        have q3 := K85.out.cell 3
        have q4 := K85.out.cell 4
        simp at q0 q1 q2 q3 q4
        have HO9 := Lib.hid ((HOw.out.below B8.out).below ((Below.refl _ _).alloc (Nat.le_refl _) (.cells #[.string x.op, .string x.nm, .int .i64 x.n, .slice A2 (mvL d x.l).length c2, .int .i64 (a9)] 52)))
        have N9 := Lib.hid (Blk.new w8 52 #[.string x.op, .string x.nm, .int .i64 x.n, .slice A2 (mvL d x.l).length c2, .int .i64 (a9)])
        have BA : Hid (Below w8.heap.size w8 (w8.alloc (.cells #[.string x.op, .string x.nm, .int .i64 x.n, .slice A2 (mvL d x.l).length c2, .int .i64 (a9)] 52))) := Lib.hid ((Below.refl _ _).alloc (Nat.le_refl _) _)
        have HGd : Hid (([.string x.op, .string x.nm, .int .i64 x.n, .slice A2 (mvL d x.l).length c2, .int .i64 (a9)] : List Value).length = 5 ∧ (kEx n).good (fun b => W.heap.size ≤ b ∧ b < (w8.alloc (.cells #[.string x.op, .string x.nm, .int .i64 x.n, .slice A2 (mvL d x.l).length c2, .int .i64 (a9)] 52)).heap.size ∧ u5.ownBlock ≠ some b) (w8.alloc (.cells #[.string x.op, .string x.nm, .int .i64 x.n, .slice A2 (mvL d x.l).length c2, .int .i64 (a9)] 52)) (mvE d x) [.string x.op, .string x.nm, .int .i64 x.n, .slice A2 (mvL d x.l).length c2, .int .i64 (a9)]) := Lib.hid ⟨rfl, _, by rw [mvE_X, HA9.out]; rfl, by rw [mvE_X]; exact HIn.out, by rw [mvE_X]; exact (by show In64 (IntKind.i64.wrap _); exact in64_wrap _), by
          rw [mvE_X]
          refine (R8.out.below BA.out (fun b q => by rw [HSz.out]; exact q.2)).wide (fun b q => ⟨Nat.le_trans (Nat.le_trans HBw.out.size HB1.out.size) q.1, Nat.lt_of_lt_of_le (by rw [HSz.out]; exact q.2) BA.out.size, fun e => absurd (HOw.out.lt b e).2 (Nat.not_lt.2 (Nat.le_trans HB1.out.size q.1))⟩)⟩
        obtain ⟨css, hcs1, hcs2, hcs3⟩ := HO9.out
        rw [HTl.out] at hcs2
        have C1 := Lib.hid hcs1
        have C2 := Lib.hid hcs2
        have C3 := Lib.hid hcs3
        have BW9 : Hid (Below W.heap.size W (w8.alloc (.cells #[.string x.op, .string x.nm, .int .i64 x.n, .slice A2 (mvL d x.l).length c2, .int .i64 (a9)] 52))) := Lib.hid (thru (thru HBw.out B8.out) BA.out)
        clear hcs1 hcs2 hcs3
        go_wp2_with (at_builtin; refine wpList_append_at rfl _ _ 50 rfl W.heap.size 52 i0 (.agg #[.string ⟨#[]⟩, .string ⟨#[]⟩, .int .i64 0, .slice none 0 0, .int .i64 0]) 5 72 Tryd.underlying50 HI0.out.1 HI0.out.2.1 HI0.out.2.2.1 HI0.out.2.2.2 rfl (by decide) u5 k css.flatten rfl C2.out ⟨w8.heap.size, 0, none⟩ 1 1 [.string x.op, .string x.nm, .int .i64 x.n, .slice A2 (mvL d x.l).length c2, .int .i64 (a9)] rfl rfl (news_five N9.out) (one_five _ _ _ _ _ _ _) (by unfold maxLen; omega) (by have := HLim.out; omega) BW9.out.size ?_; intro v5 w5 ho hg hv; have O5 : Hid (OwnL (kEx n) 52 5 W.heap.size w5 v5 (mvL d (l.take k) ++ [mvE d x])) := Lib.hid (OwnL.more C1.out C3.out (by rw [HTl.out]; exact ho) hg hv HGd.out.1 HGd.out.2); have B5 : Hid (Below W.heap.size W w5) := Lib.hid (Below.grown BW9.out hg BW9.out.size (fun g e => (C2.out.lt g e).1)); clear ho hg hv)
        have HMo : Hid (mvL d (l.take (k + 1)) = mvL d (l.take k) ++ [mvE d x]) := Lib.hid (by rw [take_one HX.out, mvL_map, mvL_map, List.map_append]; rfl)
        rw [← HMo.out] at O5
        go_roundw
        case rel => exact ⟨k + 1, by go_num, hlt, O5.out, B5.out⟩
        case measure => simp [RowKit.intOf]; omega
      · have he : k = m := by omega
        subst he
        have hT : l.take k = l := by rw [← HM.out, List.take_length]
        have HO := HOw.out
        rw [hT] at HO
        have HZ := Lib.hid (own_ex HO (by rw [mvL_len, HM.out]; exact HLim.out))
        obtain ⟨A9, c9, rfl⟩ : ∃ A9 c9, u5 = .slice A9 k c9 := by
          obtain ⟨A9, c9, e, -⟩ := HO.row
          rw [mvL_len, HM.out] at e
          exact ⟨_, _, e⟩
        clear HO hT
        go_wp2_with fail
        go_ret
        exact ⟨_, rfl, HZ.out, HBw.out⟩
end
end Go.Proofs.YtklfcjimgnnlfaaDoor
