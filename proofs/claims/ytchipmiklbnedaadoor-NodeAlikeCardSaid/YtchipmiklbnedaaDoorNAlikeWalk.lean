/- The walk of NodeAlike. -/
import Derived.Test.YtchipmiklbnedaaDoorNStaysWalk
namespace Go.Proofs.YtchipmiklbnedaaDoor
open Go.RowKit
attribute [local go_sem ↓] Go.wp_at_zero Go.wp_at_succ

theorem mkP_like {lim : Nat} {L : List Nd} {v x : Int} (hv : 0 ≤ v ∧ v < 12) (hx : hasP L.length x = true) (h : v < varP L x) : mkP lim L v x x = (L, x, 0) := by
  unfold mkP; rw [if_neg (by omega), if_neg (by simp [hx, h]), if_pos rfl]
theorem mkP_unlike {lim : Nat} {L : List Nd} {v x : Int} (hv : 0 ≤ v ∧ v < 12) (h : ¬ v < varP L x) : mkP lim L v x x = (L, 0, 51) := by
  unfold mkP; rw [if_neg (by omega), if_pos (by simp [h])]
/-- A node that is held is told again. -/
theorem mkP_old {lim : Nat} {L : List Nd} (hR : RightL L) {k : Nat} {x1 x2 x3 : Int} (hx : L[k]? = some (x1, x2, x3)) : mkP lim L x1 x2 x3 = (L, (k : Int), 0) := by
  obtain ⟨⟨h0, h12⟩, hne, ⟨hl, hlv⟩, hh, hhv⟩ := hR.1 k _ hx
  dsimp only at h0 h12 hne hl hlv hh hhv
  have hk := Nat.le_of_lt (get_len hx)
  have hl' := hasP_mono hk hl
  have hh' := hasP_mono hk hh
  unfold mkP
  rw [if_neg (by omega), if_neg (by simp [hl', hh', hlv, hhv]), if_neg hne, whereP_some hR.2 hx]
theorem bld_bad2 {w W : World} {p lim : Nat} {L L' : List Nd} {R : List Int} {v : Value} {a lo hi r c : Int} (h : Bld w p lim L R v W) (hfew : L.length + 1 ≤ 4000) (hm : mkP lim L a lo hi = (L', r, c)) (hc : c ≠ 0) :
    Calls Tryd.prog 12 #[.pointer (some ⟨p, 0, none⟩), .int .i64 a, .int .i64 lo, .int .i64 hi] W fun e w' => ∃ b, e = .returned (.tuple #[.int .i64 r, .iface 69 (.pointer (some ⟨b, 0, none⟩))]) ∧ Bld w p lim L' R v w' ∧ Blk w' b 74 #[.string ⟨#[109, 107]⟩, .int .i64 a, .iface 36 (.int .i64 c)] := by
  obtain ⟨own, hA, hw, hb, hr, hd⟩ := h
  exact (mk_bad hA hfew hm hc).mono fun _ _ ⟨own', b, h1, hk, h2, h3, h4⟩ => ⟨b, h1, bld_next hw hb hr hd h2 h3 h4, hk⟩

/-- An arena, and a row of nodes, apart from each other, above what there was. -/
def BldN (w : World) (p lim : Nat) (L N : List Nd) (v : Value) (W : World) : Prop :=
  ∃ own : Nat → Prop, Arena W own p lim L ∧ (∀ i, own i → w.heap.size ≤ i) ∧ Below w.heap.size w W ∧ W.ownsRow w.heap.size 42 3 v N.length (cellsL N) ∧ ∀ g, v.ownBlock = some g → ¬ own g
section
variable {w W W1 : World} {p lim : Nat} {L L' N : List Nd} {v : Value}
theorem bldn_start (h : Liv w p lim L W) : BldN w p lim L [] (.slice none 0 0) W := by
  obtain ⟨own, hA, hw, hb⟩ := h
  exact ⟨own, hA, hw, hb, World.ownsRow_nil _ _ _ _, fun g h => by simp [Value.ownBlock] at h⟩
theorem BldN.liv (h : BldN w p lim L N v W) : Liv w p lim L W := by
  obtain ⟨own, hA, hw, hb, -⟩ := h
  exact ⟨own, hA, hw, hb⟩
theorem BldN.row (h : BldN w p lim L N v W) : W.ownsRow w.heap.size 42 3 v N.length (cellsL N) := by
  obtain ⟨own, -, -, -, hr, -⟩ := h
  exact hr
theorem BldN.below (h : BldN w p lim L N v W) (hb : Below W.heap.size W W1) : BldN w p lim L N v W1 := by
  obtain ⟨own, hA, hw, hbw, hr, hd⟩ := h
  exact ⟨own, hA.below hb, hw, hbw.trans (hb.mono hbw.size), own_below hr hb, hd⟩
theorem bldn_next {own own' : Nat → Prop} (hw : ∀ i, own i → w.heap.size ≤ i) (hb : Below w.heap.size w W) (hr : W.ownsRow w.heap.size 42 3 v N.length (cellsL N)) (hd : ∀ g, v.ownBlock = some g → ¬ own g)
    (hA' : Arena W1 own' p lim L') (ho : Only own W W1) (hw' : ∀ i, own' i → own i ∨ W.heap.size ≤ i) : BldN w p lim L' N v W1 :=
  ⟨own', hA', fun i hi => (hw' i hi).elim (hw i) (fun h => Nat.le_trans hb.size h), hb.trans (ho.below hb.size hw), ho.row hr hd, fun g hg hi => (hw' g hi).elim (hd g hg) (fun h => by have := (hr.lt g hg).2; omega)⟩
theorem bldn_mk {a lo hi : Int} (hl : (mkP lim L a lo hi).1 = L') (hfew : L.length + 1 ≤ 4000) (h : BldN w p lim L N v W) :
    Calls Tryd.prog 12 #[.pointer (some ⟨p, 0, none⟩), .int .i64 a, .int .i64 lo, .int .i64 hi] W fun e w' => (∃ u, e = .returned u) ∧ BldN w p lim L' N v w' := by
  obtain ⟨own, hA, hw, hb, hr, hd⟩ := h
  subst hl
  exact (mk_any hA hfew).mono fun _ _ ⟨ev, own', e1, _, e3, e4, e5⟩ => ⟨⟨_, e1⟩, bldn_next hw hb hr hd e3 e4 e5⟩
theorem bldn_ok {a lo hi r : Int} (hm : mkP lim L a lo hi = (L', r, 0)) (hfew : L.length + 1 ≤ 4000) (h : BldN w p lim L N v W) :
    Calls Tryd.prog 12 #[.pointer (some ⟨p, 0, none⟩), .int .i64 a, .int .i64 lo, .int .i64 hi] W fun e w' => e = .returned (.tuple #[.int .i64 r, .nilIface]) ∧ BldN w p lim L' N v w' := by
  obtain ⟨own, hA, hw, hb, hr, hd⟩ := h
  exact (mk_ok hA hfew hm).mono fun _ _ ⟨own', h1, h2, h3, h4⟩ => ⟨h1, bldn_next hw hb hr hd h2 h3 h4⟩
theorem bldn_append {x1 x2 x3 : Int} {v' : Value} (h : BldN w p lim L N v W) (ho : W1.ownsRow w.heap.size 42 3 v' (N.length + 1) (cellsL N ++ [.int .i64 x1, .int .i64 x2, .int .i64 x3])) (hg : W.grownBy W1 v.ownBlock) (hv : v'.ownBlock = v.ownBlock ∨ v'.ownBlock = some W.heap.size) :
    BldN w p lim L (N ++ [(x1, x2, x3)]) v' W1 := by
  obtain ⟨own, hA, hw, hb, hr, hd⟩ := h
  refine ⟨own, hA.only (own1 := fun i => v.ownBlock = some i) (Only.of_grown hg fun r e => e) (fun i hi h => hd i h hi), hw, hb.grown hg hb.size (fun k hk => (hr.lt k hk).1), ?_, fun g hg' hi => ?_⟩
  · rw [List.length_append, cellsL_snoc]
    exact ho
  · rcases hv with e | e
    · exact hd g (e ▸ hg') hi
    · have := hA.old g hi
      rw [e] at hg'
      injection hg' with hg'
      omega
theorem bldn_form (h : BldN w p lim L N v W) : ∃ A c, v = .slice A N.length c := by
  rcases h.row.2 with ⟨h', h0⟩ | ⟨g, cap, cur, h', _⟩
  · exact ⟨none, 0, by rw [h', h0]⟩
  · exact ⟨_, _, h'⟩
theorem bldn_at {A : Option Addr} {c k : Nat} {x1 x2 x3 : Int} (h : BldN w p lim L N (.slice A N.length c) W) (hk : N[k]? = some (x1, x2, x3)) : ∃ g, A = some ⟨g, 0, none⟩ ∧ N.length ≤ c ∧ W.cell? ⟨g, k * 3, none⟩ = some (.int .i64 x1) ∧ W.cell? ⟨g, k * 3 + 1, none⟩ = some (.int .i64 x2) ∧ W.cell? ⟨g, k * 3 + 2, none⟩ = some (.int .i64 x3) := by
  have hlt := get_len hk
  obtain ⟨g, rfl, -, hc⟩ := row_at h.row (by omega)
  obtain ⟨h1, h2, h3⟩ := cellsL_at hk
  refine ⟨g, rfl, hc, ?_, ?_, ?_⟩
  · rw [h.row.cellAt _ (by omega)]; exact h1
  · rw [h.row.cellAt _ (by omega)]; exact h2
  · rw [h.row.cellAt _ (by omega)]; exact h3
end
theorem three_at (w : World) (a b c : Value) (t : TypeId) : ∀ (j : Nat) (u : Value), [a, b, c][j]? = some u → (w.alloc (.cells #[a, b, c] t)).cell? ((⟨w.heap.size, 0, none⟩ : Addr).add j) = some u := fun j u h => by
  rw [Addr.add_lit, Nat.zero_add]
  exact ((Blk.new w t #[a, b, c]).cell j).trans (by simpa using h)
theorem three_new (w : World) (a b c : Value) (t : TypeId) : ∀ (j : Nat) (u : Value), [a, b, c][j]? = some u → ((w.alloc (.cells #[a, b, c] t)).alloc (.cells #[a, b, c] t)).cell? ((⟨w.heap.size + 1, 0, none⟩ : Addr).add j) = some u := fun j u h => by
  have := three_at (w.alloc (.cells #[a, b, c] t)) a b c t j u h
  rw [World.size_alloc] at this
  exact this
theorem few_bounds3 {k : Nat} (h : k ≤ 4000) : k + 1 ≤ maxLen ∧ (k + 1) * 24 ≤ 140737488355328 := by unfold maxLen; omega
theorem err_ne_nil (b : Nat) (w : World) : (binOp .neq 33 (.iface 69 (.pointer (some ⟨b, 0, none⟩))) .nilIface).run Tryd.prog w = .ok (.bool true) w := by kernel_rfl
theorem nil_ne_nil (w : World) : (binOp .neq 33 .nilIface .nilIface).run Tryd.prog w = .ok (.bool false) w := by kernel_rfl
set_option maxRecDepth 100000 in
set_option maxHeartbeats 6400000 in
theorem alike_walk (f : Nat → Nd) (A : Option Addr) (m c : Nat) (h : Nat → Nd) (B : Option Addr) (mb cb : Nat) (v : Int) (w : World) (he : ErrTy w) (ht : Tabs w) (_ : m ≤ 9223372036854775807) (_ : m ≤ c) (hO : Ops w A m f) (_ : mb ≤ 9223372036854775807) (_ : mb ≤ cb) (hM : Ops w B mb h) (_ : -9223372036854775808 ≤ v ∧ v ≤ 9223372036854775807) :
    Calls Tryd.prog 8 #[.slice A m c, .slice B mb cb, .int .i64 v] w fun e w' => e = .returned (.bool true) ∧ Below w.heap.size w w' := by
  have HE := Lib.hid he
  have HT := Lib.hid ht
  have ne := ne_nil
  have en := err_ne_nil
  have nz := nil_ne_nil
  have nn : ∀ w, (binOp .eql 23 (.pointer none) (.pointer none)).run Tryd.prog w = .ok (.bool true) w := fun _ => by kernel_rfl
  clear he ht
  by_cases hm : 60 < m
  · have HF := Lib.hid (build_far_named (n := 200) (A := A) (c := c) (by omega) hm w)
    clear hO hM
    go_enter Tryd.func8, Tryd.ntmps8
    go_wp2_with (first
      | (go_at_call 27; ((with_reducible refine HF.out.mono ?_); rintro e w1 ⟨rfl, hb1⟩); have HB1 := Lib.hid hb1; clear hb1)
      | (go_at_call 10; ((with_reducible refine (alive_any _ (HE.out.below HB1.out) (HT.out.stays HB1.out)).mono ?_); rintro e w2 ⟨rfl, hb2⟩); have HB2 := Lib.hid (HB1.out.trans (hb2.mono HB1.out.size)); clear hb2))
    go_ret
    exact ⟨rfl, HB2.out⟩
  · have HF := Lib.hid (build_named (n := 200) (lim := 200) (c := c) rfl (by omega) (by omega) w hO)
    have hl := scr_len 200 [] f m
    have hrl := refs_len 200 [] f m
    have hhas := refs_has (lim := 200) (L := []) f m
    obtain ⟨L, hL⟩ : ∃ L, scr 200 [] f m = L := ⟨_, rfl⟩
    obtain ⟨R, hR⟩ : ∃ R, refsP 200 [] f m = R := ⟨_, rfl⟩
    rw [hL, hR] at HF
    rw [hL] at hl
    rw [hR] at hrl
    rw [hL, hR] at hhas
    have hl60 : L.length ≤ 60 := by simp at hl; omega
    have hr60 : R.length ≤ 60 := by omega
    have HH := Lib.hid hhas
    have HM := Lib.hid hM
    clear hO hL hR hl hrl hM hhas
    by_cases hin : ¬ 60 < mb ∧ 0 ≤ v ∧ v < 12
    · obtain ⟨hmb, hv0, hv12⟩ := hin
      have HL60 := Lib.hid hl60
      have c1 : decide (v < 0) = false := decide_eq_false (by omega)
      have c2 : decide (12 ≤ v) = false := decide_eq_false (by omega)
      have c3 : decide (60 < mb) = false := decide_eq_false hmb
      go_enter Tryd.func8, Tryd.ntmps8
      go_wp2_with (first
        | (go_at_call 27; ((with_reducible refine HF.out.mono ?_); rintro e w1 ⟨p, vv, rfl, hb1⟩); obtain ⟨A1, cv, hvv⟩ := bld_form hb1; subst hvv; have H1 := Lib.hid hb1; clear hb1))
      have HRt : Hid (RightL L) := Lib.hid (Liv.of_bld H1.out).right
      go_loopg [46] R.length (fun gk t46 wr => ∃ i : Nat, i + gk = R.length ∧ t46 = .int .i64 (i : Int) ∧ Bld w p 200 L R (.slice A1 R.length cv) wr)
      case atStart => exact ⟨0, by omega, rfl, H1.out⟩
      case round =>
        rename Nat => g0
        obtain ⟨i, hi, rfl, hB⟩ := hrel
        have HB := Lib.hid hB
        have HI := Lib.hid hi
        clear hB hi
        by_cases hil : i < R.length
        · obtain ⟨x, hx⟩ : ∃ x, R[i]? = some x := ⟨_, List.getElem?_eq_getElem hil⟩
          obtain ⟨g, hg, hcv, q1⟩ := bld_at HB.out hx
          have hhx := HH.out x (List.mem_of_getElem? hx)
          obtain ⟨y, hy⟩ : ∃ y, varP L x = y := ⟨_, rfl⟩
          have HY := Lib.hid hy
          have hfew : Hid (L.length + 1 ≤ 4000) := Lib.hid (by omega)
          subst hg
          by_cases hvy : v < y
          · have HMk := Lib.hid (mkP_like (lim := 200) (L := L) ⟨hv0, hv12⟩ hhx (by rw [hy]; exact hvy))
            have d1 : decide (y ≤ v) = false := decide_eq_false (by omega)
            clear hy hx hhx
            go_wp2_with (first
              | (go_at_call 12; ((with_reducible refine (bld_ok HB.out hfew.out HMk.out).mono ?_); rintro e w2 ⟨rfl, h2⟩); have H2 := Lib.hid h2; have H2l := Lib.hid (Liv.of_bld h2); clear h2)
              | (go_at_call 18; ((with_reducible refine (liv_var HY.out H2l.out).mono ?_); rintro e w9 ⟨rfl, rfl⟩)))
            have hi := HI.out
            go_roundg (g0 - 1)
            case measure => omega
            case rel => exact ⟨i + 1, by omega, by simp, H2.out⟩
          · have HMk := Lib.hid (mkP_unlike (lim := 200) (L := L) (x := x) ⟨hv0, hv12⟩ (by rw [hy]; exact hvy))
            have d1 : decide (y ≤ v) = true := decide_eq_true (by omega)
            clear hy hx hhx
            go_wp2_with (first
              | (go_at_call 12; ((with_reducible refine (bld_bad2 HB.out hfew.out HMk.out (by decide)).mono ?_); rintro e w2 ⟨b2, rfl, h2, hk2⟩); have H2 := Lib.hid h2; have H2l := Lib.hid (Liv.of_bld h2); have HK2 := Lib.hid hk2; have HEw := Lib.hid (HE.out.below (bld_row h2).2); have HTw := Lib.hid (HT.out.stays (bld_row h2).2); clear h2 hk2)
              | (go_at_call 18; ((with_reducible refine (liv_var HY.out H2l.out).mono ?_); rintro e w9 ⟨rfl, rfl⟩))
              | (go_at_call 14; ((with_reducible refine (number_fault HK2.out HEw.out HTw.out (by omega)).mono ?_); rintro e w3 ⟨rfl, hb3⟩); have H3 := Lib.hid (bld_below H2.out hb3); clear hb3))
            have hi := HI.out
            go_roundg (g0 - 1)
            case measure => omega
            case rel => exact ⟨i + 1, by omega, by simp, H3.out⟩
        · have hie : i = R.length := by have := HI.out; omega
          subst hie
          have HLi := Lib.hid (Liv.of_bld HB.out)
          obtain ⟨q, hq⟩ : ∃ q, L.length = q := ⟨_, rfl⟩
          have HQ := Lib.hid hq
          have hq60 : q ≤ 60 := by omega
          have hinfo : (Tryd.prog.info? 42).map (fun i => (i.zero, i.size, i.bytes)) = some (some (.agg #[.int .i64 0, .int .i64 0, .int .i64 0]), 3, 24) := by kernel_rfl
          obtain ⟨i0, hi0, hz0, hz1, hz2⟩ := info_parts hinfo
          have HI0 := Lib.hid (And.intro hi0 (And.intro hz0 (And.intro hz1 hz2)))
          clear hq hinfo hi0 hz0 hz1 hz2
          go_wp2_with (first
            | (go_at_call 15; ((with_reducible refine (liv_len_named HQ.out HLi.out).mono ?_); rintro e w9 ⟨rfl, rfl⟩)))
          go_loopg [13, 87] q (fun gk t13 t87 wr => ∃ k : Nat, k + gk = q ∧ t87 = .int .i64 (k : Int) ∧ BldN w p 200 L (L.take k) t13 wr)
          case atStart => exact ⟨0, by omega, rfl, bldn_start HLi.out⟩
          case round =>
            rename Nat => g1
            obtain ⟨k, hk, rfl, hN⟩ := hrel
            have HN := Lib.hid hN
            have HK := Lib.hid hk
            clear hN hk
            by_cases hkq : k < q
            · obtain ⟨x1, x2, x3, hx⟩ := node_named (show k < L.length by have := HQ.out; omega)
              have HX := Lib.hid hx
              have HTk : Hid (L.take (k + 1) = L.take k ++ [(x1, x2, x3)]) := Lib.hid (by
                obtain ⟨hlt, e⟩ := List.getElem?_eq_some_iff.1 hx
                rw [List.take_succ_eq_append_getElem hlt, e])
              have HNl := Lib.hid HN.out.liv
              have HBd := Lib.hid (few_bounds3 (show (L.take k).length ≤ 4000 by have := HQ.out; simp; omega))
              obtain ⟨hi0, hz0, hz1, hz2⟩ := HI0.out
              clear hx
              go_wp2_with (first
                | (go_at_call 17; ((with_reducible refine (liv_get HX.out HNl.out).mono ?_); rintro e w3 ⟨rfl, _, hb3⟩); have HN3 := Lib.hid ((HN.out.below hb3).below ((Below.refl w3.heap.size w3).alloc (Nat.le_refl _) (.cells #[.int .i64 x1, .int .i64 x2, .int .i64 x3] 42))); have hown := HN3.out.row; have HBw := Lib.hid HN3.out.liv.low; clear hb3)
                | (at_builtin; refine wpList_append_at rfl _ _ 61 rfl w.heap.size 42 i0 (.agg #[.int .i64 0, .int .i64 0, .int .i64 0]) 3 24 Tryd.underlying61 hi0 hz0 hz1 hz2 rfl (by decide) _ _ _ rfl (hown.alloc _) ⟨w3.heap.size + 1, 0, none⟩ 1 1 [.int .i64 x1, .int .i64 x2, .int .i64 x3] rfl rfl ?_ ?_ ?_ ?_ ?_ ?_; exact three_new _ _ _ _ _; exact one_three _ _ _; exact HBd.out.1; exact HBd.out.2; exact Nat.le_trans HBw.out.size ((Below.refl _ _).alloc (Nat.le_refl _) _).size; intro v' w4 ho hg hv; have H4 := Lib.hid (bldn_append (HN3.out.below ((Below.refl _ _).alloc (Nat.le_refl _) _)) ho hg hv); clear ho hg hv hown))
              have hk := HK.out
              go_roundg (g1 - 1)
              case measure => omega
              case rel => exact ⟨k + 1, by omega, by simp, by rw [HTk.out]; exact H4.out⟩
            · have hke : k = q := by have := HK.out; omega
              subst hke
              have hN := HN.out
              rw [List.take_of_length_le (by rw [HQ.out]; omega)] at hN
              obtain ⟨A2, cv2, hv2⟩ := bldn_form hN
              rename Value => u13
              subst hv2
              have HN1 := Lib.hid hN
              clear hN HN
              go_wp2_with fail
              go_loopg [103] mb (fun gk t103 wr => ∃ j : Nat, j + gk = mb ∧ t103 = .int .i64 (j : Int) ∧ BldN w p 200 (scr 200 L h j) L (.slice A2 L.length cv2) wr)
              case atStart => exact ⟨0, by omega, rfl, HN1.out⟩
              case round =>
                rename Nat => g2
                obtain ⟨j, hj, rfl, hD⟩ := hrel
                have HD := Lib.hid hD
                have HJ := Lib.hid hj
                clear hD hj
                by_cases hjm : j < mb
                · obtain ⟨b, off, x1, x2, x3, hA, hlt, hf, k0, k1, k2⟩ := (HM.out.below HD.out.liv.low).named hjm
                  obtain ⟨L', hL'⟩ : ∃ L', (mkP 200 (scr 200 L h j) x1 x2 x3).1 = L' := ⟨_, rfl⟩
                  have HL' := Lib.hid hL'
                  have HS : Hid (scr 200 L h (j + 1) = L') := Lib.hid (by show (mkP _ _ _ _ _).1 = _; rw [hf]; exact hL')
                  have HFew := Lib.hid (small_few (lim := 200) (h := h) (k := j) HL60.out (by omega))
                  have HDx := Lib.hid (HD.out.below ((Below.refl wr.heap.size wr).alloc (Nat.le_refl _) (.cells #[.int .i64 x1, .int .i64 x2, .int .i64 x3] 31)))
                  subst hA
                  clear hf hL'
                  go_wp2_with (first
                    | (go_at_call 12; ((with_reducible refine (bldn_mk HL'.out HFew.out HDx.out).mono ?_); rintro e w3 ⟨⟨u3, rfl⟩, h3⟩); have H3 := Lib.hid h3; clear h3))
                  have hj := HJ.out
                  go_roundg (g2 - 1)
                  case measure => omega
                  case rel => exact ⟨j + 1, by omega, by simp, by rw [HS.out]; exact H3.out⟩
                · have hje : j = mb := by have := HJ.out; omega
                  subst hje
                  have hAt : ∀ (u : Nat) (x : Nd), L[u]? = some x → (scr 200 L h j)[u]? = some x := fun u x hx => scr_at hx h j
                  have hRi := scr_right (lim := 200) HRt.out h j
                  have hFw := small_few (lim := 200) (h := h) (k := j) HL60.out (by omega)
                  obtain ⟨M, hMd⟩ : ∃ M, scr 200 L h j = M := ⟨_, rfl⟩
                  rw [hMd] at HD hRi hFw
                  rw [hMd] at hAt
                  have HAt := Lib.hid hAt
                  have HRi := Lib.hid hRi
                  have HFw := Lib.hid hFw
                  clear hMd hAt hRi hFw
                  go_wp2_with fail
                  go_loopg [118] L.length (fun gk t118 wr => ∃ u : Nat, u + gk = L.length ∧ t118 = .int .i64 (u : Int) ∧ BldN w p 200 M L (.slice A2 L.length cv2) wr)
                  case atStart => exact ⟨0, by omega, rfl, HD.out⟩
                  case round =>
                    rename Nat => g3
                    obtain ⟨u, hu, rfl, hE⟩ := hrel
                    have HDu := Lib.hid hE
                    have HU := Lib.hid hu
                    clear hE hu
                    by_cases huq : u < L.length
                    · obtain ⟨x1, x2, x3, hx⟩ := node_named huq
                      obtain ⟨g, hg, hcv2, q1, q2, q3⟩ := bldn_at HDu.out hx
                      have HMk := Lib.hid (mkP_old (lim := 200) HRi.out (HAt.out u _ hx))
                      have HDx := Lib.hid (HDu.out.below ((Below.refl wr.heap.size wr).alloc (Nat.le_refl _) (.cells #[.int .i64 x1, .int .i64 x2, .int .i64 x3] 42)))
                      subst hg
                      clear hx
                      go_wp2_with (first
                        | (go_at_call 12; ((with_reducible refine (bldn_ok HMk.out HFw.out HDx.out).mono ?_); rintro e w3 ⟨rfl, h3⟩); have H3 := Lib.hid h3; clear h3))
                      have hu := HU.out
                      go_roundg (g3 - 1)
                      case measure => omega
                      case rel => exact ⟨u + 1, by omega, by simp, H3.out⟩
                    · have hue : u = L.length := by have := HU.out; omega
                      subst hue
                      have HDl := Lib.hid HDu.out.liv
                      go_wp2_with (first
                        | (go_at_call 10; ((with_reducible refine (alive_any _ (HE.out.below HDl.out.low) (HT.out.stays HDl.out.low)).mono ?_); rintro e w5 ⟨rfl, hb5⟩); have H5 := Lib.hid (HDl.out.below hb5); clear hb5))
                      go_ret
                      exact ⟨rfl, H5.out.low⟩
    · have hcond : 60 < mb ∨ (¬ 60 < mb ∧ v < 0) ∨ (¬ 60 < mb ∧ 0 ≤ v ∧ 12 ≤ v) := by omega
      clear hin
      rcases hcond with a1 | ⟨a1, a2⟩ | ⟨a1, a2, a3⟩
      all_goals
        go_enter Tryd.func8, Tryd.ntmps8
        go_wp2_with (first
          | (go_at_call 27; ((with_reducible refine HF.out.mono ?_); rintro e w1 ⟨p, vv, rfl, hb1⟩); have H1 := Lib.hid (bld_row hb1).2; clear hb1)
          | (go_at_call 10; ((with_reducible refine (alive_any _ (HE.out.below H1.out) (HT.out.stays H1.out)).mono ?_); rintro e w2 ⟨rfl, hb2⟩); have HB2 := Lib.hid (H1.out.trans (hb2.mono H1.out.size)); clear hb2))
        go_ret
        exact ⟨rfl, HB2.out⟩
end Go.Proofs.YtchipmiklbnedaaDoor
