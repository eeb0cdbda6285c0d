/- The walk of NodeAll. -/
import Derived.Test.YtchipmiklbnedaaDoorNWalksWalk
import Derived.Test.YtchipmiklbnedaaDoorNTerms
namespace Go.Proofs.YtchipmiklbnedaaDoor
open Go.RowKit
attribute [local go_sem ↓] Go.wp_at_zero Go.wp_at_succ

theorem own_row_ne {w : World} {base base' size size' n n' : Nat} {e e' : TypeId} {v v' : Value} {xs xs' : List Value} (h : w.ownsRow base e size v n xs) (h' : w.ownsRow base' e' size' v' n' xs') (hne : e ≠ e') {g : Nat} (hg : v.ownBlock = some g) : v'.ownBlock ≠ some g := by
  rcases h.2 with ⟨rfl, _⟩ | ⟨k, cap, cur, rfl, _, hh, _⟩
  · simp [Value.ownBlock] at hg
  · have : k = g := by simpa [Value.ownBlock] using hg
    subst this
    exact own_blk_ne h' (t := e) hh hne.symm
section
variable {w W W1 : World} {p lim rb c : Nat} {A : Option Addr} {L M L' : List Nd}
/-- An arena touches its three blocks alone: none of the document's. -/
theorem both_own (h : Both w p lim L rb A c M W) : ∃ own : Nat → Prop, Arena W own p lim L ∧ (∀ i, own i → w.heap.size ≤ i) ∧ ¬ own rb ∧ (∀ g, (Value.slice A M.length c).ownBlock = some g → ¬ own g) ∧ ∀ g cs, Blk W g 31 cs → ¬ own g := by
  obtain ⟨own, ⟨P, T, An, Ap, cn, cp, hR, hrest⟩, h2, h3, h4, h5, h6, h7⟩ := h
  refine ⟨fun i => i = p ∨ (Value.slice An L.length cn).ownBlock = some i ∨ (Value.slice Ap P cp).ownBlock = some i, ⟨P, T, An, Ap, cn, cp, ⟨hR.blk, .inl rfl, fun g e => .inr (.inl e), fun g e => .inr (.inr e), ?_, hR.rowN, hR.rowP, hR.limit, hR.few, hR.room⟩, hrest⟩, ?_, ?_, ?_, ?_⟩
  · rintro i (rfl | e | e)
    · exact hR.old _ hR.mine
    · exact hR.old _ (hR.mineN _ e)
    · exact hR.old _ (hR.mineP _ e)
  · rintro i (rfl | e | e)
    · exact h2 _ hR.mine
    · exact h2 _ (hR.mineN _ e)
    · exact h2 _ (hR.mineP _ e)
  · rintro (rfl | e | e)
    · exact h5 hR.mine
    · exact h5 (hR.mineN _ e)
    · exact h5 (hR.mineP _ e)
  · rintro g hg (rfl | e | e)
    · exact own_blk_ne h7.1 hR.blk (by decide) hg
    · exact own_row_ne h7.1 hR.rowN (by decide) hg e
    · exact own_row_ne h7.1 hR.rowP (by decide) hg e
  · rintro g cs hg (rfl | e | e)
    · exact Blk.ne_ hg hR.blk (by decide) rfl
    · exact own_blk_ne hR.rowN hg (by decide) e
    · exact own_blk_ne hR.rowP hg (by decide) e
theorem both_next {own own' : Nat → Prop} (h : Both w p lim L rb A c M W) (hw : ∀ i, own i → w.heap.size ≤ i) (hnr : ¬ own rb) (hnA : ∀ g, (Value.slice A M.length c).ownBlock = some g → ¬ own g)
    (hA' : Arena W1 own' p lim L') (ho : Only own W W1) (hw' : ∀ i, own' i → own i ∨ W.heap.size ≤ i) : Both w p lim L' rb A c M W1 := by
  obtain ⟨own0, h1, h2, h3, h4, h5, h6, h7⟩ := h
  exact ⟨own', hA', fun i hi => (hw' i hi).elim (hw i) (fun h => Nat.le_trans h3.size h), h3.trans (ho.below h3.size hw), ho.blk h4 hnr, fun hi => (hw' _ hi).elim hnr (fun h => by have := h4.lt; omega), h6, ⟨ho.row h7.1 hnA, h7.2⟩⟩
theorem both_ok {a lo hi r : Int} {g : Nat} {cs : Array Value} (hx : Blk W g 31 cs) (h : Both w p lim L rb A c M W) (hfew : L.length + 1 ≤ 4000) (hm : mkP lim L a lo hi = (L', r, 0)) :
    Calls Tryd.prog 12 #[.pointer (some ⟨p, 0, none⟩), .int .i64 a, .int .i64 lo, .int .i64 hi] W fun e w' => e = .returned (.tuple #[.int .i64 r, .nilIface]) ∧ Both w p lim L' rb A c M w' ∧ Blk w' g 31 cs := by
  obtain ⟨own, hA, hw, hr, hnA, hop⟩ := both_own h
  exact (mk_ok hA hfew hm).mono fun _ _ ⟨own', h1, h2, h3, h4⟩ => ⟨h1, both_next h hw hr hnA h2 h3 h4, h3.blk hx (hop _ _ hx)⟩
theorem both_bad {a lo hi r cc : Int} {g : Nat} {cs : Array Value} (hx : Blk W g 31 cs) (h : Both w p lim L rb A c M W) (hfew : L.length + 1 ≤ 4000) (hm : mkP lim L a lo hi = (L', r, cc)) (hc : cc ≠ 0) :
    Calls Tryd.prog 12 #[.pointer (some ⟨p, 0, none⟩), .int .i64 a, .int .i64 lo, .int .i64 hi] W fun e w' => ∃ b, e = .returned (.tuple #[.int .i64 r, .iface 69 (.pointer (some ⟨b, 0, none⟩))]) ∧ Blk w' b 74 #[.string ⟨#[109, 107]⟩, .int .i64 a, .iface 36 (.int .i64 cc)] ∧ Both w p lim L' rb A c M w' ∧ Blk w' g 31 cs := by
  obtain ⟨own, hA, hw, hr, hnA, hop⟩ := both_own h
  exact (mk_bad hA hfew hm hc).mono fun _ _ ⟨own', b, h1, hk, h2, h3, h4⟩ => ⟨b, h1, hk, both_next h hw hr hnA h2 h3 h4, h3.blk hx (hop _ _ hx)⟩
theorem liv_limit (h : Liv w p lim L W) : Calls Tryd.prog 16 #[.pointer (some ⟨p, 0, none⟩)] W (RetW (.int .i64 lim) W) := by
  obtain ⟨own, hA, -⟩ := h
  exact arena_limit hA
theorem liv_has {r : Int} {q : Nat} {x : Bool} (hq : hasP q r = x) (hl : L.length = q) (h : Liv w p lim L W) : Calls Tryd.prog 19 #[.pointer (some ⟨p, 0, none⟩), .int .i64 r] W (RetW (.bool x) W) := by
  obtain ⟨own, hA, -⟩ := h
  rw [← hq, ← hl]
  exact arena_has hA
end
theorem mkP_code {lim : Nat} {L L' : List Nd} {v lo hi r c : Int} (h : mkP lim L v lo hi = (L', r, c)) : 0 ≤ c ∧ c ≤ 1000 := by
  have : c = (mkP lim L v lo hi).2.2 := by rw [h]
  rw [this]
  unfold mkP
  repeat' split
  all_goals (dsimp only; omega)
theorem new_named {n : Int} {lim : Nat} (hl : n.toNat = lim) (h : -9223372036854775808 ≤ n ∧ n ≤ 9223372036854775807) (w : World) : Calls Tryd.prog 9 #[.int .i64 n] w fun e w' => ∃ p, e = .returned (.pointer (some ⟨p, 0, none⟩)) ∧ Liv w p lim [] w' :=
  (build_new n h w).mono fun _ _ ⟨p, h1, h2⟩ => ⟨p, h1, hl ▸ Liv.of_bld h2⟩
theorem liv_in {w W : World} {p lim k : Nat} {L : List Nd} {x1 x2 x3 r : Int} (hx : L[k]? = some (x1, x2, x3)) (hr : (k : Int) = r) (h : Liv w p lim L W) : Calls Tryd.prog 17 #[.pointer (some ⟨p, 0, none⟩), .int .i64 r] W fun e w' => e = .returned (.tuple #[.agg #[.int .i64 x1, .int .i64 x2, .int .i64 x3], .bool true]) ∧ Below W.heap.size W w' := by
  rw [← hr]
  exact (liv_get hx h).mono fun _ _ ⟨h1, _, h2⟩ => ⟨h1, h2⟩
theorem liv_out {w W : World} {p lim : Nat} {L : List Nd} {r : Int} (hr : ¬ (0 ≤ r ∧ r < (L.length : Int))) (h : Liv w p lim L W) : Calls Tryd.prog 17 #[.pointer (some ⟨p, 0, none⟩), .int .i64 r] W fun e w' => e = .returned (.tuple #[.agg #[.int .i64 0, .int .i64 0, .int .i64 0], .bool false]) ∧ Below W.heap.size W w' := by
  obtain ⟨own, hA, -⟩ := h
  exact arena_out hA hr
theorem hasP_at {q k : Nat} (h : k < q) : hasP q (k : Int) = true := (hasP_iff _ _).2 (by omega)
attribute [local go_sem ↓] neR eqgR in
set_option maxRecDepth 100000 in
set_option maxHeartbeats 40000000 in
theorem all_walk (n : Int) (f : Nat → Nd) (A : Option Addr) (m c : Nat) (r : Int) (w : World) (he : ErrTy w) (ht : Tabs w) (hn : -9223372036854775808 ≤ n ∧ n ≤ 9223372036854775807) (_ : m ≤ 9223372036854775807) (_ : m ≤ c) (hO : Ops w A m f) (hrr : -9223372036854775808 ≤ r ∧ r ≤ 9223372036854775807) :
    Calls Tryd.prog 3 #[.int .i64 n, .slice A m c, .int .i64 r] w fun e w' => e = .returned (.bool true) ∧ Below w.heap.size w w' := by
  have HE := Lib.hid he
  have HT := Lib.hid ht
  have ne := ne_nil
  have ee : ∀ b w, (binOp .neq 23 (.pointer (some ⟨b, 0, none⟩)) (.pointer none)).run Tryd.prog w = .ok (.bool true) w := fun _ _ => by kernel_rfl
  obtain ⟨lim, hlim⟩ : ∃ lim, n.toNat = lim := ⟨_, rfl⟩
  have HN := Lib.hid (new_named hlim hn w)
  have HRN : Hid (∀ W, Calls Tryd.prog 11 #[.int .i64 n] W (RetRNew lim W)) := Lib.hid fun W => rnew_any hlim W
  clear he ht hlim hn
  by_cases hm : 100 < m
  · clear hO
    go_enter Tryd.func3, Tryd.ntmps3
    go_wp2_with (first
      | (go_at_call 9; ((with_reducible refine HN.out.mono ?_); rintro e w1 ⟨p, rfl, hb1⟩); have H1 := Lib.hid hb1; clear hb1)
      | (go_at_call 10; ((with_reducible refine (alive_any _ (HE.out.below H1.out.low) (HT.out.stays H1.out.low)).mono ?_); rintro e w2 ⟨rfl, hb2⟩); have H2 := Lib.hid (H1.out.below hb2); clear hb2))
    go_ret
    exact ⟨rfl, H2.out.low⟩
  · have HO := Lib.hid hO
    obtain ⟨L, hL⟩ : ∃ L, scr lim [] f m = L := ⟨_, rfl⟩
    have HL := Lib.hid hL
    clear hO hL
    go_enter Tryd.func3, Tryd.ntmps3
    go_wp2_with (first
      | (go_at_call 9; ((with_reducible refine HN.out.mono ?_); rintro e w1 ⟨p, rfl, hb1⟩); have H1 := Lib.hid hb1; clear hb1)
      | (go_at_call 11; ((with_reducible refine (HRN.out _).mono ?_); rintro e w2 ⟨rfl, hb2⟩); have H2 := Lib.hid (both_start (H1.out.below hb2)); clear hb2))
    obtain ⟨rb, hrb⟩ : ∃ rb, w2.heap.size = rb := ⟨_, rfl⟩
    rw [hrb] at H2 ⊢
    clear hrb
    go_loopg [40] m (fun gk t40 wr => ∃ (i : Nat) (A' : Option Addr) (c' : Nat), i + gk = m ∧ t40 = .int .i64 (i : Int) ∧ Both w p lim (scr lim [] f i) rb A' c' (scr lim [] f i) wr)
    case atStart => exact ⟨0, none, 0, by omega, rfl, H2.out⟩
    case round =>
      rename Nat => g0
      obtain ⟨i, A', c', hi, rfl, hB⟩ := hrel
      have HB := Lib.hid hB
      have HI := Lib.hid hi
      clear hB hi
      by_cases him : i < m
      · obtain ⟨b', off, x1, x2, x3, hA, hblt, hf, k0, k1, k2⟩ := (HO.out.below HB.out.liv.low).named him
        obtain ⟨L', rr, cc, hm'⟩ : ∃ L' r cc, mkP lim (scr lim [] f i) x1 x2 x3 = (L', r, cc) := ⟨_, _, _, rfl⟩
        have HS : Hid (scr lim [] f (i + 1) = L') := Lib.hid (by show (mkP _ _ _ _ _).1 = _; rw [hf, hm'])
        have hrt : RightL (scr lim [] f i) := scr_right right_none f i
        have hfw : (scr lim [] f i).length + 1 ≤ 4000 := by have := scr_len lim [] f i; simp at this; omega
        obtain ⟨M, hM⟩ : ∃ M, scr lim [] f i = M := ⟨_, rfl⟩
        rw [hM] at HB hm' hrt hfw
        have HMk := Lib.hid hm'
        have HRt := Lib.hid hrt
        have HFw := Lib.hid hfw
        have HCc := Lib.hid (mkP_code hm')
        have hbo := (Below.refl wr.heap.size wr).alloc (Nat.le_refl _) (.cells #[.int .i64 x1, .int .i64 x2, .int .i64 x3] 31)
        have HBx := Lib.hid (HB.out.below hbo)
        have HOx := Lib.hid (Blk.new wr 31 #[.int .i64 x1, .int .i64 x2, .int .i64 x3])
        obtain ⟨q3, hq3⟩ : ∃ q3, L'.length = q3 := ⟨_, rfl⟩
        have HQ3 := Lib.hid hq3
        subst hA
        clear hf hm' hrt hfw hM hbo hq3
        by_cases hc : cc = 0
        · subst hc
          go_wp2_with (first
            | (go_at_call 12; ((with_reducible refine (both_ok HOx.out HBx.out HFw.out HMk.out).mono ?_); rintro e w3 ⟨rfl, h3, hx3⟩); have H3 := Lib.hid h3; have HO3 := Lib.hid hx3; obtain ⟨⟨d0, d1⟩, d2, d3, d4⟩ := h3.cells; have o0 : w3.cell? ⟨wr.heap.size, 0, none⟩ = some (.int .i64 x1) := hx3.cell 0; have o1 : w3.cell? ⟨wr.heap.size, 1, none⟩ = some (.int .i64 x2) := hx3.cell 1; have o2 : w3.cell? ⟨wr.heap.size, 2, none⟩ = some (.int .i64 x3) := hx3.cell 2; clear h3 hx3)
            | (go_at_call 13; ((with_reducible refine (rmk_any HMk.out H3.out.ref HRt.out HFw.out).mono ?_); rintro e w4 ⟨A2, c2, rfl, hr4, hb4⟩); have H4 := Lib.hid (H3.out.below hb4); have HR4 := Lib.hid hr4; clear d0 d1 d2 d3 d4 o0 o1 o2; obtain ⟨⟨d0, d1⟩, d2, d3, d4⟩ := H4.out.cells; clear hr4 hb4))
          have HW := Lib.hid ((H4.out.next HR4.out).below ((Below.refl _ _).alloc (Nat.le_refl _) (.cells #[.int .i64 lim, .slice A2 L'.length c2] 28)))
          obtain ⟨V, hV⟩ : ∃ V, V = (((w4.setCell ⟨rb, 0, none⟩ (.int .i64 lim)).setCell ⟨rb, 1, none⟩ (.slice A2 L'.length c2)).alloc (.cells #[.int .i64 lim, .slice A2 L'.length c2] 28)) := ⟨_, rfl⟩
          rw [← hV] at HW
          rw [← hV]
          clear hV d0 d1 d2 d3 d4
          have HWd := Lib.hid (HW.out.below (Below.refl _ _).drew)
          have HWl := Lib.hid HWd.out.liv
          have K0 : Hid (Both w p lim L' rb A2 c2 L' V.drew ∧ V.drew.cell? ⟨rb, 0, none⟩ = some (.int .i64 lim) ∧ V.drew.cell? ⟨rb, 1, none⟩ = some (.slice A2 q3 c2)) := Lib.hid ⟨HWd.out, HWd.out.cells.1.1, HQ3.out ▸ HWd.out.cells.1.2⟩
          go_region_held3 (fun w' => Both w p lim L' rb A2 c2 L' w' ∧ w'.cell? ⟨rb, 0, none⟩ = some (.int .i64 lim) ∧ w'.cell? ⟨rb, 1, none⟩ = some (.slice A2 q3 c2))
            (first | (with_reducible exact K0.out))
            (first
              | (go_at_call 14; ((with_reducible refine (number_nil _).mono ?_); rintro e w9 ⟨rfl, rfl⟩))
              | (go_at_call 15; ((with_reducible refine (liv_len_named HQ3.out HWl.out).mono ?_); rintro e w9 ⟨rfl, rfl⟩))
              | (go_at_call 16; ((with_reducible refine (liv_limit HWl.out).mono ?_); rintro e w9 ⟨rfl, rfl⟩)))
          go_wp2_with fail
          have hi := HI.out
          go_roundg (g0 - 1)
          case measure => omega
          case rel => exact ⟨i + 1, A2, c2, by omega, by simp, by rw [HS.out]; exact HWd.out⟩
        · have HCne := Lib.hid hc
          clear hc
          go_wp2_with (first
            | (go_at_call 12; ((with_reducible refine (both_bad HOx.out HBx.out HFw.out HMk.out HCne.out).mono ?_); rintro e w3 ⟨fb, rfl, hk3, h3, hx3⟩); have HK3 := Lib.hid hk3; clear hk3; have H3 := Lib.hid h3; have HO3 := Lib.hid hx3; obtain ⟨⟨d0, d1⟩, d2, d3, d4⟩ := h3.cells; have o0 : w3.cell? ⟨wr.heap.size, 0, none⟩ = some (.int .i64 x1) := hx3.cell 0; have o1 : w3.cell? ⟨wr.heap.size, 1, none⟩ = some (.int .i64 x2) := hx3.cell 1; have o2 : w3.cell? ⟨wr.heap.size, 2, none⟩ = some (.int .i64 x3) := hx3.cell 2; clear h3 hx3)
            | (go_at_call 13; ((with_reducible refine (rmk_any HMk.out H3.out.ref HRt.out HFw.out).mono ?_); rintro e w4 ⟨A2, c2, rfl, hr4, hb4⟩); have H4 := Lib.hid (H3.out.below hb4); have HR4 := Lib.hid hr4; have HK4 := Lib.hid (HK3.out.below hb4 HK3.out.lt); clear d0 d1 d2 d3 d4 o0 o1 o2; obtain ⟨⟨d0, d1⟩, d2, d3, d4⟩ := H4.out.cells; clear hr4 hb4))
          have HW := Lib.hid ((H4.out.next HR4.out).below ((Below.refl _ _).alloc (Nat.le_refl _) (.cells #[.int .i64 lim, .slice A2 L'.length c2] 28)))
          have hfr : rb ≠ fb := Blk.ne_ H4.out.box HK4.out (by decide)
          have hfr2 : fb ≠ rb := fun e => hfr e.symm
          have HKV := Lib.hid (((HK4.out.far (p := ⟨rb, 0, none⟩) hfr2 (.int .i64 lim)).far (p := ⟨rb, 1, none⟩) hfr2 (.slice A2 L'.length c2)).below ((Below.refl _ _).alloc (Nat.le_refl _) (.cells #[.int .i64 lim, .slice A2 L'.length c2] 28)) (Blk.lt ((HK4.out.far (p := ⟨rb, 0, none⟩) hfr2 (.int .i64 lim)).far (p := ⟨rb, 1, none⟩) hfr2 (.slice A2 L'.length c2))))
          obtain ⟨V, hV⟩ : ∃ V, V = (((w4.setCell ⟨rb, 0, none⟩ (.int .i64 lim)).setCell ⟨rb, 1, none⟩ (.slice A2 L'.length c2)).alloc (.cells #[.int .i64 lim, .slice A2 L'.length c2] 28)) := ⟨_, rfl⟩
          rw [← hV] at HW HKV
          rw [← hV]
          clear hV d0 d1 d2 d3 d4
          have HWd := Lib.hid (HW.out.below (Below.refl _ _).drew)
          have HWl := Lib.hid HWd.out.liv
          have HKd := Lib.hid (HKV.out.below (Below.refl _ _).drew HKV.out.lt)
          have K0 : Hid (Both w p lim L' rb A2 c2 L' V.drew ∧ V.drew.cell? ⟨rb, 0, none⟩ = some (.int .i64 lim) ∧ V.drew.cell? ⟨rb, 1, none⟩ = some (.slice A2 q3 c2)) := Lib.hid ⟨HWd.out, HWd.out.cells.1.1, HQ3.out ▸ HWd.out.cells.1.2⟩
          go_region_held3 (fun w' => Both w p lim L' rb A2 c2 L' w' ∧ w'.cell? ⟨rb, 0, none⟩ = some (.int .i64 lim) ∧ w'.cell? ⟨rb, 1, none⟩ = some (.slice A2 q3 c2))
            (first | (with_reducible exact K0.out) | (with_reducible exact K8.out))
            (first
              | (go_at_call 14; ((with_reducible refine (number_fault HKd.out (HE.out.below HWl.out.low) (HT.out.stays HWl.out.low) HCc.out).mono ?_); rintro e w8 ⟨rfl, hb8⟩); have HW8 := Lib.hid (HWd.out.below hb8); have HWl8 := Lib.hid HW8.out.liv; have K8 : Hid (Both w p lim L' rb A2 c2 L' w8 ∧ w8.cell? ⟨rb, 0, none⟩ = some (.int .i64 lim) ∧ w8.cell? ⟨rb, 1, none⟩ = some (.slice A2 q3 c2)) := Lib.hid ⟨HW8.out, HW8.out.cells.1.1, HQ3.out ▸ HW8.out.cells.1.2⟩; clear hb8)
              | (go_at_call 15; ((with_reducible refine (liv_len_named HQ3.out HWl8.out).mono ?_); rintro e w9 ⟨rfl, rfl⟩))
              | (go_at_call 16; ((with_reducible refine (liv_limit HWl8.out).mono ?_); rintro e w9 ⟨rfl, rfl⟩)))
          go_wp2_with fail
          have hi := HI.out
          go_roundg (g0 - 1)
          case measure => omega
          case rel => exact ⟨i + 1, A2, c2, by omega, by simp, by rw [HS.out]; exact HW8.out⟩
      · have hie : i = m := by have := HI.out; omega
        subst hie
        rw [HL.out] at HB
        obtain ⟨⟨c0, c1⟩, f0, f1, hlt⟩ := HB.out.cells
        obtain ⟨q2, hq2⟩ : ∃ q2, L.length = q2 := ⟨_, rfl⟩
        have HQ2 := Lib.hid hq2
        have hq2b : q2 ≤ 4000 := by rw [← hq2]; exact HB.out.liv.few
        rw [hq2] at c1
        clear hq2
        go_wp2_with fail
        go_loopg [96] q2 (fun gk t96 wr => ∃ j : Nat, j + gk = q2 ∧ t96 = .int .i64 (j : Int) ∧ Both w p lim L rb A' c' L wr)
        case atStart => exact ⟨0, by omega, rfl, HB.out⟩
        case round =>
          rename Nat => g1
          obtain ⟨j, hj, rfl, hBj⟩ := hrel
          have HBj := Lib.hid hBj
          have HJ := Lib.hid hj
          clear hBj hj c0 c1 f0 f1 hlt
          by_cases hjq : j < q2
          · obtain ⟨x1, x2, x3, hx⟩ := node_named (show j < L.length by have := HQ2.out; omega)
            obtain ⟨g, hA, hg, k0, k1, k2⟩ := HBj.out.ref.node hx
            have HX := Lib.hid hx
            have HV : Hid (varP L (j : Int) = x1) := Lib.hid (varP_at hx)
            have HH : Hid (hasP q2 (j : Int) = true) := Lib.hid (hasP_at (by omega))
            have HBa := Lib.hid (HBj.out.below ((Below.refl wr.heap.size wr).alloc (Nat.le_refl _) (.cells #[.int .i64 x1, .int .i64 x2, .int .i64 x3] 41)))
            have HBl := Lib.hid HBa.out.liv
            have HBb := Lib.hid (Blk.new wr 41 #[.int .i64 x1, .int .i64 x2, .int .i64 x3])
            have hs := sameN_self x1 x2 x3
            subst hA
            clear hx
            go_wp2_with (first
              | (go_at_call 17; ((with_reducible refine (liv_get HX.out HBl.out).mono ?_); rintro e w3 ⟨rfl, h3, hb3⟩); have H3 := Lib.hid (HBa.out.below hb3); have HB3 := Lib.hid (HBb.out.below hb3 HBb.out.lt); clear h3 hb3))
            have hbV : Below w3.heap.size w3 (w3.alloc (.cells #[.int .i64 x1, .int .i64 x2, .int .i64 x3] 42)).drew := ((Below.refl w3.heap.size w3).alloc (Nat.le_refl _) _).drew
            obtain ⟨V, hV⟩ : ∃ V, V = (w3.alloc (.cells #[.int .i64 x1, .int .i64 x2, .int .i64 x3] 42)) := ⟨_, rfl⟩
            have HV0 : Hid (Blk V.drew w3.heap.size 42 #[.int .i64 x1, .int .i64 x2, .int .i64 x3]) := Lib.hid (by rw [hV]; exact Blk.new _ _ _)
            have HV1 : Hid (Blk V.drew wr.heap.size 41 #[.int .i64 x1, .int .i64 x2, .int .i64 x3]) := Lib.hid (by rw [hV]; exact HB3.out.below hbV HB3.out.lt)
            have HV2 : Hid (Both w p lim L rb (some ⟨g, 0, none⟩) c' L V.drew) := Lib.hid (by rw [hV]; exact H3.out.below hbV)
            have HV3 := Lib.hid HV2.out.liv
            rw [← hV]
            clear hV hbV
            have K0 : Hid (Both w p lim L rb (some ⟨g, 0, none⟩) c' L V.drew ∧ V.drew.cell? ⟨w3.heap.size, 0, none⟩ = some (.int .i64 x1) ∧ V.drew.cell? ⟨w3.heap.size, 1, none⟩ = some (.int .i64 x2) ∧ V.drew.cell? ⟨w3.heap.size, 2, none⟩ = some (.int .i64 x3) ∧ V.drew.cell? ⟨wr.heap.size, 0, none⟩ = some (.int .i64 x1) ∧ V.drew.cell? ⟨wr.heap.size, 1, none⟩ = some (.int .i64 x2) ∧ V.drew.cell? ⟨wr.heap.size, 2, none⟩ = some (.int .i64 x3)) := Lib.hid ⟨HV2.out, HV0.out.cell 0, HV0.out.cell 1, HV0.out.cell 2, HV1.out.cell 0, HV1.out.cell 1, HV1.out.cell 2⟩
            go_region_held3 (fun w' => Both w p lim L rb (some ⟨g, 0, none⟩) c' L w' ∧ w'.cell? ⟨w3.heap.size, 0, none⟩ = some (.int .i64 x1) ∧ w'.cell? ⟨w3.heap.size, 1, none⟩ = some (.int .i64 x2) ∧ w'.cell? ⟨w3.heap.size, 2, none⟩ = some (.int .i64 x3) ∧ w'.cell? ⟨wr.heap.size, 0, none⟩ = some (.int .i64 x1) ∧ w'.cell? ⟨wr.heap.size, 1, none⟩ = some (.int .i64 x2) ∧ w'.cell? ⟨wr.heap.size, 2, none⟩ = some (.int .i64 x3))
              (first | (with_reducible exact K0.out))
              (first
                | (go_at_call 18; ((with_reducible refine (liv_var HV.out HV3.out).mono ?_); rintro e w9 ⟨rfl, rfl⟩))
                | (go_at_call 19; ((with_reducible refine (liv_has HH.out HQ2.out HV3.out).mono ?_); rintro e w9 ⟨rfl, rfl⟩)))
            go_wp2_with fail
            have hj := HJ.out
            go_roundg (g1 - 1)
            case measure => omega
            case rel => exact ⟨j + 1, by omega, by simp, HV2.out⟩
          · have hje : j = q2 := by have := HJ.out; omega
            subst hje
            have HBl := Lib.hid HBj.out.liv
            obtain ⟨b1, hb1⟩ : ∃ b, hasP j r = b := ⟨_, rfl⟩
            obtain ⟨y1, hy1⟩ : ∃ y, varP L r = y := ⟨_, rfl⟩
            obtain ⟨tm, htm⟩ : ∃ y, termP r = y := ⟨_, rfl⟩
            obtain ⟨vl, hvl⟩ : ∃ y, valueP r = y := ⟨_, rfl⟩
            have HHas := Lib.hid hb1
            have HVar := Lib.hid hy1
            have HRH : Hid (∀ W, RefA W A' c' L → Calls Tryd.prog 20 #[.agg #[.int .i64 lim, .slice A' j c'], .int .i64 r] W (RetRB (.bool b1) W)) := Lib.hid fun W h => by rw [← hb1, ← HQ2.out]; exact rhas_any h
            have HRV : Hid (∀ W, RefA W A' c' L → Calls Tryd.prog 21 #[.agg #[.int .i64 lim, .slice A' j c'], .int .i64 r] W (RetRB (.int .i64 y1) W)) := Lib.hid fun W h => by rw [← hy1, ← HQ2.out]; exact rvar_any h
            have HTn : Hid (∀ W, Calls Tryd.prog 22 #[.int .i64 r] W (RetW (.int .i64 tm) W)) := Lib.hid fun W => htm ▸ term_any r W
            have HTr : Hid (∀ W, Calls Tryd.prog 23 #[.int .i64 r] W (RetW (.int .i64 tm) W)) := Lib.hid fun W => htm ▸ rterm_any r W
            have HVn : Hid (∀ W, Calls Tryd.prog 24 #[.int .i64 r] W (RetW (.int .i64 vl) W)) := Lib.hid fun W => hvl ▸ value_any r W
            have HVr : Hid (∀ W, Calls Tryd.prog 25 #[.int .i64 r] W (RetW (.int .i64 vl) W)) := Lib.hid fun W => hvl ▸ rvalue_any r W
            have HIs := Lib.hid fun W => isTerm_any r W
            have bb := beq_self_eq_true b1
            clear hb1 hy1 htm hvl
            by_cases h0 : r < 0
            · have e0 : decide (r < 0) = true := decide_eq_true h0
              have e1 : decide (0 ≤ r) = false := decide_eq_false (by omega)
              have HG := Lib.hid (liv_out (show ¬ (0 ≤ r ∧ r < (L.length : Int)) by omega) HBl.out)
              clear h0
              go_wp2_with (first
                | (go_at_call 17; ((with_reducible refine (HG.out).mono ?_); rintro e w3 ⟨rfl, hb3⟩); have H3 := Lib.hid (HBj.out.below hb3); clear hb3))
              obtain ⟨V, hV⟩ : ∃ V, V = (w3.alloc (.cells #[.int .i64 0, .int .i64 0, .int .i64 0] 42)) := ⟨_, rfl⟩
              have H4 : Hid (Both w p lim L rb A' c' L V.drew) := Lib.hid (by rw [hV]; exact H3.out.below ((Below.refl w3.heap.size w3).alloc (Nat.le_refl _) _).drew)
              rw [← hV]
              clear hV
              have K0 : Hid (Both w p lim L rb A' c' L V.drew ∧ V.drew.cell? ⟨rb, 0, none⟩ = some (.int .i64 lim) ∧ V.drew.cell? ⟨rb, 1, none⟩ = some (.slice A' j c')) := Lib.hid ⟨H4.out, H4.out.cells.1.1, HQ2.out ▸ H4.out.cells.1.2⟩
              refine wp_region_held_drew (S := fun w' => Both w p lim L rb A' c' L w' ∧ w'.cell? ⟨rb, 0, none⟩ = some (.int .i64 lim) ∧ w'.cell? ⟨rb, 1, none⟩ = some (.slice A' j c')) (by kernel_rfl) K0.out (fun hH0 => ?_)
              refine wpAnyH_ready (rs := [0]) (by kernel_rfl) (by simp) ?_
              refine AllReadyH.cons (o := ⟨some 135, _, _, _, _, _⟩) rfl (fun K hK => ?_) AllReadyH.nil
              go_simp
              refine (alive_any _ (HE.out.below H4.out.liv.low) (HT.out.stays H4.out.liv.low)).mono ?_
              rintro e w5 ⟨rfl, hb5⟩
              have H5 := Lib.hid (H4.out.below hb5); have H5l := Lib.hid H5.out.liv; have K5 : Hid (Both w p lim L rb A' c' L w5 ∧ w5.cell? ⟨rb, 0, none⟩ = some (.int .i64 lim) ∧ w5.cell? ⟨rb, 1, none⟩ = some (.slice A' j c')) := Lib.hid ⟨H5.out, H5.out.cells.1.1, HQ2.out ▸ H5.out.cells.1.2⟩; clear hb5
              go_wp2_with fail
              refine hK.out _ _ (K5.out) (fun hH1 => ?_)
              clear hK K hH0
              try simp only [Act.put, List.setIfInBounds_toArray, List.set_cons_zero, List.set_cons_succ]
              refine wpAnyH_take (i := 1) (oi := ⟨some 136, _, _, _, _, _⟩) (v := ?_) rfl (by kernel_rfl) (by kernel_rfl) (by kernel_rfl) (fun _ _ _ h => h) (Or.inl ⟨by rfl, ?_⟩) hH1 ?_
              rotate_left
              · intro w hSw
                try dsimp only at hSw
                go_simp
                try with_reducible rfl
              try simp only [Act.put, List.setIfInBounds_toArray, List.set_cons_zero, List.set_cons_succ]
              refine wpAnyH_take (i := 2) (oi := ⟨some 137, _, _, _, _, _⟩) (v := ?_) rfl (by kernel_rfl) (by kernel_rfl) (by kernel_rfl) (fun _ _ _ h => h) (Or.inl ⟨by rfl, ?_⟩) hH1 ?_
              rotate_left
              · intro w hSw
                try dsimp only at hSw
                go_simp
                try with_reducible rfl
              try simp only [Act.put, List.setIfInBounds_toArray, List.set_cons_zero, List.set_cons_succ]
              refine wpAnyH_take (i := 3) (oi := ⟨some 138, _, _, _, _, _⟩) (v := ?_) rfl (by kernel_rfl) (by kernel_rfl) (by kernel_rfl) (fun _ _ _ h => h) (Or.inl ⟨by rfl, ?_⟩) hH1 ?_
              rotate_left
              · intro w hSw
                try dsimp only at hSw
                go_simp
                try with_reducible rfl
              try simp only [Act.put, List.setIfInBounds_toArray, List.set_cons_zero, List.set_cons_succ]
              refine wpAnyH_take (i := 5) (oi := ⟨some 140, _, _, _, _, _⟩) (v := ?_) rfl (by kernel_rfl) (by kernel_rfl) (by kernel_rfl) (fun _ _ _ h => h) (Or.inl ⟨by rfl, ?_⟩) hH1 ?_
              rotate_left
              · intro w hSw
                try dsimp only at hSw
                go_simp
                try with_reducible rfl
              try simp only [Act.put, List.setIfInBounds_toArray, List.set_cons_zero, List.set_cons_succ]
              refine wpAnyH_take (i := 6) (oi := ⟨some 141, _, _, _, _, _⟩) (v := ?_) rfl (by kernel_rfl) (by kernel_rfl) (by kernel_rfl) (fun _ _ _ h => h) (Or.inl ⟨by rfl, ?_⟩) hH1 ?_
              rotate_left
              · intro w hSw
                try dsimp only at hSw
                go_simp
                try with_reducible rfl
              try simp only [Act.put, List.setIfInBounds_toArray, List.set_cons_zero, List.set_cons_succ]
              refine wpAnyH_ready (rs := [4]) (by kernel_rfl) (by simp) ?_
              refine AllReadyH.cons (o := ⟨some 139, _, _, _, _, _⟩) rfl (fun K hK => ?_) AllReadyH.nil
              go_simp
              refine (liv_has HHas.out HQ2.out H5l.out).mono ?_
              rintro e w9 ⟨rfl, rfl⟩
              go_wp2_with fail
              refine hK.out _ _ (K5.out) (fun hH2 => ?_)
              clear hK K hH1
              try simp only [Act.put, List.setIfInBounds_toArray, List.set_cons_zero, List.set_cons_succ]
              refine wpAnyH_ready (rs := [7]) (by kernel_rfl) (by simp) ?_
              refine AllReadyH.cons (o := ⟨some 142, _, _, _, _, _⟩) rfl (fun K hK => ?_) AllReadyH.nil
              go_simp
              refine (HRH.out _ H5.out.ref).mono ?_
              rintro e w6 ⟨rfl, hb6⟩
              have H6 := Lib.hid (H5.out.below hb6); have H6l := Lib.hid H6.out.liv; have K6 : Hid (Both w p lim L rb A' c' L w6 ∧ w6.cell? ⟨rb, 0, none⟩ = some (.int .i64 lim) ∧ w6.cell? ⟨rb, 1, none⟩ = some (.slice A' j c')) := Lib.hid ⟨H6.out, H6.out.cells.1.1, HQ2.out ▸ H6.out.cells.1.2⟩; clear hb6
              go_wp2_with fail
              refine hK.out _ _ (K6.out) (fun hH3 => ?_)
              clear hK K hH2
              try simp only [Act.put, List.setIfInBounds_toArray, List.set_cons_zero, List.set_cons_succ]
              refine wpAnyH_take (i := 8) (oi := ⟨some 143, _, _, _, _, _⟩) (v := ?_) rfl (by kernel_rfl) (by kernel_rfl) (by kernel_rfl) (fun _ _ _ h => h) (Or.inl ⟨by rfl, ?_⟩) hH3 ?_
              rotate_left
              · intro w hSw
                try dsimp only at hSw
                go_simp
                try with_reducible rfl
              try simp only [Act.put, List.setIfInBounds_toArray, List.set_cons_zero, List.set_cons_succ]
              refine wpAnyH_take (i := 9) (oi := ⟨some 144, _, _, _, _, _⟩) (v := ?_) rfl (by kernel_rfl) (by kernel_rfl) (by kernel_rfl) (fun _ _ _ h => h) (Or.inl ⟨by rfl, ?_⟩) hH3 ?_
              rotate_left
              · intro w hSw
                try dsimp only at hSw
                go_simp
                try with_reducible rfl
              try simp only [Act.put, List.setIfInBounds_toArray, List.set_cons_zero, List.set_cons_succ]
              refine wpAnyH_take (i := 10) (oi := ⟨some 145, _, _, _, _, _⟩) (v := ?_) rfl (by kernel_rfl) (by kernel_rfl) (by kernel_rfl) (fun _ _ _ h => h) (Or.inl ⟨by rfl, ?_⟩) hH3 ?_
              rotate_left
              · intro w hSw
                try dsimp only at hSw
                go_simp
                try with_reducible rfl
              try simp only [Act.put, List.setIfInBounds_toArray, List.set_cons_zero, List.set_cons_succ]
              refine wpAnyH_take (i := 11) (oi := ⟨some 146, _, _, _, _, _⟩) (v := ?_) rfl (by kernel_rfl) (by kernel_rfl) (by kernel_rfl) (fun _ _ _ h => h) (Or.inl ⟨by rfl, ?_⟩) hH3 ?_
              rotate_left
              · intro w hSw
                try dsimp only at hSw
                go_simp
                try with_reducible rfl
              try simp only [Act.put, List.setIfInBounds_toArray, List.set_cons_zero, List.set_cons_succ]
              refine wpAnyH_take (i := 12) (oi := ⟨some 147, _, _, _, _, _⟩) (v := ?_) rfl (by kernel_rfl) (by kernel_rfl) (by kernel_rfl) (fun _ _ _ h => h) (Or.inl ⟨by rfl, ?_⟩) hH3 ?_
              rotate_left
              · intro w hSw
                try dsimp only at hSw
                go_simp
                try with_reducible rfl
              try simp only [Act.put, List.setIfInBounds_toArray, List.set_cons_zero, List.set_cons_succ]
              refine wpAnyH_take (i := 14) (oi := ⟨some 149, _, _, _, _, _⟩) (v := ?_) rfl (by kernel_rfl) (by kernel_rfl) (by kernel_rfl) (fun _ _ _ h => h) (Or.inl ⟨by rfl, ?_⟩) hH3 ?_
              rotate_left
              · intro w hSw
                try dsimp only at hSw
                go_simp
                try with_reducible rfl
              try simp only [Act.put, List.setIfInBounds_toArray, List.set_cons_zero, List.set_cons_succ]
              refine wpAnyH_take (i := 15) (oi := ⟨some 150, _, _, _, _, _⟩) (v := ?_) rfl (by kernel_rfl) (by kernel_rfl) (by kernel_rfl) (fun _ _ _ h => h) (Or.inl ⟨by rfl, ?_⟩) hH3 ?_
              rotate_left
              · intro w hSw
                try dsimp only at hSw
                go_simp
                try with_reducible rfl
              try simp only [Act.put, List.setIfInBounds_toArray, List.set_cons_zero, List.set_cons_succ]
              refine wpAnyH_ready (rs := [13]) (by kernel_rfl) (by simp) ?_
              refine AllReadyH.cons (o := ⟨some 148, _, _, _, _, _⟩) rfl (fun K hK => ?_) AllReadyH.nil
              go_simp
              refine (liv_var HVar.out H6l.out).mono ?_
              rintro e w9 ⟨rfl, rfl⟩
              go_wp2_with fail
              refine hK.out _ _ (K6.out) (fun hH4 => ?_)
              clear hK K hH3
              try simp only [Act.put, List.setIfInBounds_toArray, List.set_cons_zero, List.set_cons_succ]
              refine wpAnyH_ready (rs := [16]) (by kernel_rfl) (by simp) ?_
              refine AllReadyH.cons (o := ⟨some 151, _, _, _, _, _⟩) rfl (fun K hK => ?_) AllReadyH.nil
              go_simp
              refine (HRV.out _ H6.out.ref).mono ?_
              rintro e w7 ⟨rfl, hb7⟩
              have H7 := Lib.hid (H6.out.below hb7); have K7 : Hid (Both w p lim L rb A' c' L w7 ∧ w7.cell? ⟨rb, 0, none⟩ = some (.int .i64 lim) ∧ w7.cell? ⟨rb, 1, none⟩ = some (.slice A' j c')) := Lib.hid ⟨H7.out, H7.out.cells.1.1, HQ2.out ▸ H7.out.cells.1.2⟩; clear hb7
              go_wp2_with fail
              refine hK.out _ _ (K7.out) (fun hH5 => ?_)
              clear hK K hH4
              try simp only [Act.put, List.setIfInBounds_toArray, List.set_cons_zero, List.set_cons_succ]
              refine wpAnyH_take (i := 17) (oi := ⟨some 152, _, _, _, _, _⟩) (v := ?_) rfl (by kernel_rfl) (by kernel_rfl) (by kernel_rfl) (fun _ _ _ h => h) (Or.inl ⟨by rfl, ?_⟩) hH5 ?_
              rotate_left
              · intro w hSw
                try dsimp only at hSw
                go_simp
                try with_reducible rfl
              try simp only [Act.put, List.setIfInBounds_toArray, List.set_cons_zero, List.set_cons_succ]
              refine wpAnyH_take (i := 18) (oi := ⟨some 153, _, _, _, _, _⟩) (v := ?_) rfl (by kernel_rfl) (by kernel_rfl) (by kernel_rfl) (fun _ _ _ h => h) (Or.inl ⟨by rfl, ?_⟩) hH5 ?_
              rotate_left
              · intro w hSw
                try dsimp only at hSw
                go_simp
                try with_reducible rfl
              try simp only [Act.put, List.setIfInBounds_toArray, List.set_cons_zero, List.set_cons_succ]
              refine wpAnyH_take (i := 19) (oi := ⟨some 154, _, _, _, _, _⟩) (v := ?_) rfl (by kernel_rfl) (by kernel_rfl) (by kernel_rfl) (fun _ _ _ h => h) (Or.inl ⟨by rfl, ?_⟩) hH5 ?_
              rotate_left
              · intro w hSw
                try dsimp only at hSw
                go_simp
                try with_reducible rfl
              try simp only [Act.put, List.setIfInBounds_toArray, List.set_cons_zero, List.set_cons_succ]
              refine wpAnyH_take (i := 20) (oi := ⟨some 155, _, _, _, _, _⟩) (v := ?_) rfl (by kernel_rfl) (by kernel_rfl) (by kernel_rfl) (fun _ _ _ h => h) (Or.inl ⟨by rfl, ?_⟩) hH5 ?_
              rotate_left
              · intro w hSw
                try dsimp only at hSw
                go_simp
                try with_reducible rfl
              try simp only [Act.put, List.setIfInBounds_toArray, List.set_cons_zero, List.set_cons_succ]
              refine wpAnyH_take (i := 21) (oi := ⟨some 156, _, _, _, _, _⟩) (v := ?_) rfl (by kernel_rfl) (by kernel_rfl) (by kernel_rfl) (fun _ _ _ h => h) (Or.inl ⟨by rfl, ?_⟩) hH5 ?_
              rotate_left
              · intro w hSw
                try dsimp only at hSw
                go_simp
                try with_reducible rfl
              try simp only [Act.put, List.setIfInBounds_toArray, List.set_cons_zero, List.set_cons_succ]
              refine wpAnyH_take (i := 22) (oi := ⟨some 157, _, _, _, _, _⟩) (v := ?_) rfl (by kernel_rfl) (by kernel_rfl) (by kernel_rfl) (fun _ _ _ h => h) (Or.inl ⟨by rfl, ?_⟩) hH5 ?_
              rotate_left
              · intro w hSw
                try dsimp only at hSw
                go_simp
                try with_reducible rfl
              try simp only [Act.put, List.setIfInBounds_toArray, List.set_cons_zero, List.set_cons_succ]
              refine wpAnyH_take (i := 23) (oi := ⟨some 158, _, _, _, _, _⟩) (v := ?_) rfl (by kernel_rfl) (by kernel_rfl) (by kernel_rfl) (fun _ _ _ h => h) (Or.inl ⟨by rfl, ?_⟩) hH5 ?_
              rotate_left
              · intro w hSw
                try dsimp only at hSw
                go_simp
                try with_reducible rfl
              try simp only [Act.put, List.setIfInBounds_toArray, List.set_cons_zero, List.set_cons_succ]
              refine wpAnyH_take (i := 24) (oi := ⟨some 159, _, _, _, _, _⟩) (v := undef) rfl (by kernel_rfl) (by kernel_rfl) (by kernel_rfl) (fun _ _ _ h => h) (Or.inr ⟨by rfl, rfl⟩) hH5 ?_
              try simp only [Act.put, List.setIfInBounds_toArray, List.set_cons_zero, List.set_cons_succ]
              refine wpAnyH_take (i := 25) (oi := ⟨some 160, _, _, _, _, _⟩) (v := undef) rfl (by kernel_rfl) (by kernel_rfl) (by kernel_rfl) (fun _ _ _ h => h) (Or.inr ⟨by rfl, rfl⟩) hH5 ?_
              try simp only [Act.put, List.setIfInBounds_toArray, List.set_cons_zero, List.set_cons_succ]
              refine wpAnyH_take (i := 26) (oi := ⟨some 161, _, _, _, _, _⟩) (v := undef) rfl (by kernel_rfl) (by kernel_rfl) (by kernel_rfl) (fun _ _ _ h => h) (Or.inr ⟨by rfl, rfl⟩) hH5 ?_
              try simp only [Act.put, List.setIfInBounds_toArray, List.set_cons_zero, List.set_cons_succ]
              refine wpAnyH_take (i := 27) (oi := ⟨some 162, _, _, _, _, _⟩) (v := undef) rfl (by kernel_rfl) (by kernel_rfl) (by kernel_rfl) (fun _ _ _ h => h) (Or.inr ⟨by rfl, rfl⟩) hH5 ?_
              try simp only [Act.put, List.setIfInBounds_toArray, List.set_cons_zero, List.set_cons_succ]
              refine wpAnyH_take (i := 28) (oi := ⟨some 163, _, _, _, _, _⟩) (v := undef) rfl (by kernel_rfl) (by kernel_rfl) (by kernel_rfl) (fun _ _ _ h => h) (Or.inr ⟨by rfl, rfl⟩) hH5 ?_
              try simp only [Act.put, List.setIfInBounds_toArray, List.set_cons_zero, List.set_cons_succ]
              refine wpAnyH_take (i := 29) (oi := ⟨some 164, _, _, _, _, _⟩) (v := ?_) rfl (by kernel_rfl) (by kernel_rfl) (by kernel_rfl) (fun _ _ _ h => h) (Or.inl ⟨by rfl, ?_⟩) hH5 ?_
              rotate_left
              · intro w hSw
                try dsimp only at hSw
                go_simp
                try with_reducible rfl
              try simp only [Act.put, List.setIfInBounds_toArray, List.set_cons_zero, List.set_cons_succ]
              refine wpAnyH_take (i := 30) (oi := ⟨some 165, _, _, _, _, _⟩) (v := ?_) rfl (by kernel_rfl) (by kernel_rfl) (by kernel_rfl) (fun _ _ _ h => h) (Or.inl ⟨by rfl, ?_⟩) hH5 ?_
              rotate_left
              · intro w hSw
                try dsimp only at hSw
                go_simp
                try with_reducible rfl
              try simp only [Act.put, List.setIfInBounds_toArray, List.set_cons_zero, List.set_cons_succ]
              refine wpAnyH_take (i := 31) (oi := ⟨some 166, _, _, _, _, _⟩) (v := ?_) rfl (by kernel_rfl) (by kernel_rfl) (by kernel_rfl) (fun _ _ _ h => h) (Or.inl ⟨by rfl, ?_⟩) hH5 ?_
              rotate_left
              · intro w hSw
                try dsimp only at hSw
                go_simp
                try with_reducible rfl
              try simp only [Act.put, List.setIfInBounds_toArray, List.set_cons_zero, List.set_cons_succ]
              refine wpAnyH_take (i := 32) (oi := ⟨some 167, _, _, _, _, _⟩) (v := ?_) rfl (by kernel_rfl) (by kernel_rfl) (by kernel_rfl) (fun _ _ _ h => h) (Or.inl ⟨by rfl, ?_⟩) hH5 ?_
              rotate_left
              · intro w hSw
                try dsimp only at hSw
                go_simp
                try with_reducible rfl
              try simp only [Act.put, List.setIfInBounds_toArray, List.set_cons_zero, List.set_cons_succ]
              refine wpAnyH_take (i := 33) (oi := ⟨some 168, _, _, _, _, _⟩) (v := ?_) rfl (by kernel_rfl) (by kernel_rfl) (by kernel_rfl) (fun _ _ _ h => h) (Or.inl ⟨by rfl, ?_⟩) hH5 ?_
              rotate_left
              · intro w hSw
                try dsimp only at hSw
                go_simp
                try with_reducible rfl
              try simp only [Act.put, List.setIfInBounds_toArray, List.set_cons_zero, List.set_cons_succ]
              refine wpAnyH_take (i := 35) (oi := ⟨some 170, _, _, _, _, _⟩) (v := ?_) rfl (by kernel_rfl) (by kernel_rfl) (by kernel_rfl) (fun _ _ _ h => h) (Or.inl ⟨by rfl, ?_⟩) hH5 ?_
              rotate_left
              · intro w hSw
                try dsimp only at hSw
                go_simp
                try with_reducible rfl
              try simp only [Act.put, List.setIfInBounds_toArray, List.set_cons_zero, List.set_cons_succ]
              refine wpAnyH_ready (rs := [34]) (by kernel_rfl) (by simp) ?_
              refine AllReadyH.cons (o := ⟨some 169, _, _, _, _, _⟩) rfl (fun K hK => ?_) AllReadyH.nil
              go_simp
              refine (HTn.out _).mono ?_
              rintro e w9 ⟨rfl, rfl⟩
              go_wp2_with fail
              refine hK.out _ _ (K7.out) (fun hH6 => ?_)
              clear hK K hH5
              try simp only [Act.put, List.setIfInBounds_toArray, List.set_cons_zero, List.set_cons_succ]
              refine wpAnyH_ready (rs := [36]) (by kernel_rfl) (by simp) ?_
              refine AllReadyH.cons (o := ⟨some 171, _, _, _, _, _⟩) rfl (fun K hK => ?_) AllReadyH.nil
              go_simp
              refine (HTr.out _).mono ?_
              rintro e w9 ⟨rfl, rfl⟩
              go_wp2_with fail
              refine hK.out _ _ (K7.out) (fun hH7 => ?_)
              clear hK K hH6
              try simp only [Act.put, List.setIfInBounds_toArray, List.set_cons_zero, List.set_cons_succ]
              refine wpAnyH_take (i := 37) (oi := ⟨some 172, _, _, _, _, _⟩) (v := ?_) rfl (by kernel_rfl) (by kernel_rfl) (by kernel_rfl) (fun _ _ _ h => h) (Or.inl ⟨by rfl, ?_⟩) hH7 ?_
              rotate_left
              · intro w hSw
                try dsimp only at hSw
                go_simp
                try with_reducible rfl
              try simp only [Act.put, List.setIfInBounds_toArray, List.set_cons_zero, List.set_cons_succ]
              refine wpAnyH_take (i := 38) (oi := ⟨some 173, _, _, _, _, _⟩) (v := ?_) rfl (by kernel_rfl) (by kernel_rfl) (by kernel_rfl) (fun _ _ _ h => h) (Or.inl ⟨by rfl, ?_⟩) hH7 ?_
              rotate_left
              · intro w hSw
                try dsimp only at hSw
                go_simp
                try with_reducible rfl
              try simp only [Act.put, List.setIfInBounds_toArray, List.set_cons_zero, List.set_cons_succ]
              refine wpAnyH_take (i := 39) (oi := ⟨some 174, _, _, _, _, _⟩) (v := ?_) rfl (by kernel_rfl) (by kernel_rfl) (by kernel_rfl) (fun _ _ _ h => h) (Or.inl ⟨by rfl, ?_⟩) hH7 ?_
              rotate_left
              · intro w hSw
                try dsimp only at hSw
                go_simp
                try with_reducible rfl
              try simp only [Act.put, List.setIfInBounds_toArray, List.set_cons_zero, List.set_cons_succ]
              refine wpAnyH_take (i := 40) (oi := ⟨some 175, _, _, _, _, _⟩) (v := ?_) rfl (by kernel_rfl) (by kernel_rfl) (by kernel_rfl) (fun _ _ _ h => h) (Or.inl ⟨by rfl, ?_⟩) hH7 ?_
              rotate_left
              · intro w hSw
                try dsimp only at hSw
                go_simp
                try with_reducible rfl
              try simp only [Act.put, List.setIfInBounds_toArray, List.set_cons_zero, List.set_cons_succ]
              refine wpAnyH_take (i := 42) (oi := ⟨some 177, _, _, _, _, _⟩) (v := ?_) rfl (by kernel_rfl) (by kernel_rfl) (by kernel_rfl) (fun _ _ _ h => h) (Or.inl ⟨by rfl, ?_⟩) hH7 ?_
              rotate_left
              · intro w hSw
                try dsimp only at hSw
                go_simp
                try with_reducible rfl
              try simp only [Act.put, List.setIfInBounds_toArray, List.set_cons_zero, List.set_cons_succ]
              refine wpAnyH_ready (rs := [41]) (by kernel_rfl) (by simp) ?_
              refine AllReadyH.cons (o := ⟨some 176, _, _, _, _, _⟩) rfl (fun K hK => ?_) AllReadyH.nil
              go_simp
              refine (HVn.out _).mono ?_
              rintro e w9 ⟨rfl, rfl⟩
              go_wp2_with fail
              refine hK.out _ _ (K7.out) (fun hH8 => ?_)
              clear hK K hH7
              try simp only [Act.put, List.setIfInBounds_toArray, List.set_cons_zero, List.set_cons_succ]
              refine wpAnyH_ready (rs := [43]) (by kernel_rfl) (by simp) ?_
              refine AllReadyH.cons (o := ⟨some 178, _, _, _, _, _⟩) rfl (fun K hK => ?_) AllReadyH.nil
              go_simp
              refine (HVr.out _).mono ?_
              rintro e w9 ⟨rfl, rfl⟩
              go_wp2_with fail
              refine hK.out _ _ (K7.out) (fun hH9 => ?_)
              clear hK K hH8
              try simp only [Act.put, List.setIfInBounds_toArray, List.set_cons_zero, List.set_cons_succ]
              refine wpAnyH_take (i := 44) (oi := ⟨some 179, _, _, _, _, _⟩) (v := ?_) rfl (by kernel_rfl) (by kernel_rfl) (by kernel_rfl) (fun _ _ _ h => h) (Or.inl ⟨by rfl, ?_⟩) hH9 ?_
              rotate_left
              · intro w hSw
                try dsimp only at hSw
                go_simp
                try with_reducible rfl
              try simp only [Act.put, List.setIfInBounds_toArray, List.set_cons_zero, List.set_cons_succ]
              refine wpAnyH_take (i := 45) (oi := ⟨some 180, _, _, _, _, _⟩) (v := ?_) rfl (by kernel_rfl) (by kernel_rfl) (by kernel_rfl) (fun _ _ _ h => h) (Or.inl ⟨by rfl, ?_⟩) hH9 ?_
              rotate_left
              · intro w hSw
                try dsimp only at hSw
                go_simp
                try with_reducible rfl
              try simp only [Act.put, List.setIfInBounds_toArray, List.set_cons_zero, List.set_cons_succ]
              refine wpAnyH_take (i := 46) (oi := ⟨some 181, _, _, _, _, _⟩) (v := ?_) rfl (by kernel_rfl) (by kernel_rfl) (by kernel_rfl) (fun _ _ _ h => h) (Or.inl ⟨by rfl, ?_⟩) hH9 ?_
              rotate_left
              · intro w hSw
                try dsimp only at hSw
                go_simp
                try with_reducible rfl
              try simp only [Act.put, List.setIfInBounds_toArray, List.set_cons_zero, List.set_cons_succ]
              refine wpAnyH_take (i := 47) (oi := ⟨some 182, _, _, _, _, _⟩) (v := ?_) rfl (by kernel_rfl) (by kernel_rfl) (by kernel_rfl) (fun _ _ _ h => h) (Or.inl ⟨by rfl, ?_⟩) hH9 ?_
              rotate_left
              · intro w hSw
                try dsimp only at hSw
                go_simp
                try with_reducible rfl
              try simp only [Act.put, List.setIfInBounds_toArray, List.set_cons_zero, List.set_cons_succ]
              refine wpAnyH_take (i := 49) (oi := ⟨some 184, _, _, _, _, _⟩) (v := ?_) rfl (by kernel_rfl) (by kernel_rfl) (by kernel_rfl) (fun _ _ _ h => h) (Or.inl ⟨by rfl, ?_⟩) hH9 ?_
              rotate_left
              · intro w hSw
                try dsimp only at hSw
                go_simp
                try with_reducible rfl
              try simp only [Act.put, List.setIfInBounds_toArray, List.set_cons_zero, List.set_cons_succ]
              refine wpAnyH_take (i := 50) (oi := ⟨some 185, _, _, _, _, _⟩) (v := ?_) rfl (by kernel_rfl) (by kernel_rfl) (by kernel_rfl) (fun _ _ _ h => h) (Or.inl ⟨by rfl, ?_⟩) hH9 ?_
              rotate_left
              · intro w hSw
                try dsimp only at hSw
                go_simp
                try with_reducible rfl
              try simp only [Act.put, List.setIfInBounds_toArray, List.set_cons_zero, List.set_cons_succ]
              refine wpAnyH_ready (rs := [48]) (by kernel_rfl) (by simp) ?_
              refine AllReadyH.cons (o := ⟨some 183, _, _, _, _, _⟩) rfl (fun K hK => ?_) AllReadyH.nil
              go_simp
              refine (HIs.out _).mono ?_
              rintro e w9 ⟨rfl, rfl⟩
              go_wp2_with fail
              refine hK.out _ _ (K7.out) (fun hH10 => ?_)
              clear hK K hH9
              try simp only [Act.put, List.setIfInBounds_toArray, List.set_cons_zero, List.set_cons_succ]
              refine wpAnyH_take (i := 51) (oi := ⟨some 186, _, _, _, _, _⟩) (v := ?_) rfl (by kernel_rfl) (by kernel_rfl) (by kernel_rfl) (fun _ _ _ h => h) (Or.inl ⟨by rfl, ?_⟩) hH10 ?_
              rotate_left
              · intro w hSw
                try dsimp only at hSw
                go_simp
                try with_reducible rfl
              try simp only [Act.put, List.setIfInBounds_toArray, List.set_cons_zero, List.set_cons_succ]
              refine wpAnyH_take (i := 52) (oi := ⟨some 187, _, _, _, _, _⟩) (v := ?_) rfl (by kernel_rfl) (by kernel_rfl) (by kernel_rfl) (fun _ _ _ h => h) (Or.inl ⟨by rfl, ?_⟩) hH10 ?_
              rotate_left
              · intro w hSw
                try dsimp only at hSw
                go_simp
                try with_reducible rfl
              try simp only [Act.put, List.setIfInBounds_toArray, List.set_cons_zero, List.set_cons_succ]
              refine wpAnyH_take (i := 53) (oi := ⟨some 6, _, _, _, _, _⟩) (v := ?_) rfl (by kernel_rfl) (by kernel_rfl) (by kernel_rfl) (fun _ _ _ h => h) (Or.inl ⟨by rfl, ?_⟩) hH10 ?_
              rotate_left
              · intro w hSw
                try dsimp only at hSw
                go_simp
                try with_reducible rfl
              try simp only [Act.put, List.setIfInBounds_toArray, List.set_cons_zero, List.set_cons_succ]
              refine wpAnyH_done (by kernel_rfl) ?_ _
              go_wp2_with fail
              go_ret
              exact ⟨rfl, H7.out.liv.low⟩
            · have e0 : decide (r < 0) = false := decide_eq_false h0
              have e1 : decide (0 ≤ r) = true := decide_eq_true (by omega)
              by_cases h2 : r < (j : Int)
              · have e2 : decide (r < (j : Int)) = true := decide_eq_true h2
                obtain ⟨k, hk⟩ : ∃ k : Nat, (k : Int) = r := ⟨r.toNat, by omega⟩
                obtain ⟨z1, z2, z3, hz⟩ := node_named (show k < L.length by have := HQ2.out; omega)
                have HG := Lib.hid (liv_in hz hk HBl.out)
                clear hz hk h0 h2
                go_wp2_with (first
                  | (go_at_call 17; ((with_reducible refine (HG.out).mono ?_); rintro e w3 ⟨rfl, hb3⟩); have H3 := Lib.hid (HBj.out.below hb3); clear hb3))
                obtain ⟨V, hV⟩ : ∃ V, V = (w3.alloc (.cells #[.int .i64 z1, .int .i64 z2, .int .i64 z3] 42)) := ⟨_, rfl⟩
                have H4 : Hid (Both w p lim L rb A' c' L V.drew) := Lib.hid (by rw [hV]; exact H3.out.below ((Below.refl w3.heap.size w3).alloc (Nat.le_refl _) _).drew)
                rw [← hV]
                clear hV
                have K0 : Hid (Both w p lim L rb A' c' L V.drew ∧ V.drew.cell? ⟨rb, 0, none⟩ = some (.int .i64 lim) ∧ V.drew.cell? ⟨rb, 1, none⟩ = some (.slice A' j c')) := Lib.hid ⟨H4.out, H4.out.cells.1.1, HQ2.out ▸ H4.out.cells.1.2⟩
                refine wp_region_held_drew (S := fun w' => Both w p lim L rb A' c' L w' ∧ w'.cell? ⟨rb, 0, none⟩ = some (.int .i64 lim) ∧ w'.cell? ⟨rb, 1, none⟩ = some (.slice A' j c')) (by kernel_rfl) K0.out (fun hH0 => ?_)
                refine wpAnyH_ready (rs := [0]) (by kernel_rfl) (by simp) ?_
                refine AllReadyH.cons (o := ⟨some 135, _, _, _, _, _⟩) rfl (fun K hK => ?_) AllReadyH.nil
                go_simp
                refine (alive_any _ (HE.out.below H4.out.liv.low) (HT.out.stays H4.out.liv.low)).mono ?_
                rintro e w5 ⟨rfl, hb5⟩
                have H5 := Lib.hid (H4.out.below hb5); have H5l := Lib.hid H5.out.liv; have K5 : Hid (Both w p lim L rb A' c' L w5 ∧ w5.cell? ⟨rb, 0, none⟩ = some (.int .i64 lim) ∧ w5.cell? ⟨rb, 1, none⟩ = some (.slice A' j c')) := Lib.hid ⟨H5.out, H5.out.cells.1.1, HQ2.out ▸ H5.out.cells.1.2⟩; clear hb5
                go_wp2_with fail
                refine hK.out _ _ (K5.out) (fun hH1 => ?_)
                clear hK K hH0
                try simp only [Act.put, List.setIfInBounds_toArray, List.set_cons_zero, List.set_cons_succ]
                refine wpAnyH_take (i := 1) (oi := ⟨some 136, _, _, _, _, _⟩) (v := ?_) rfl (by kernel_rfl) (by kernel_rfl) (by kernel_rfl) (fun _ _ _ h => h) (Or.inl ⟨by rfl, ?_⟩) hH1 ?_
                rotate_left
                · intro w hSw
                  try dsimp only at hSw
                  go_simp
                  try with_reducible rfl
                try simp only [Act.put, List.setIfInBounds_toArray, List.set_cons_zero, List.set_cons_succ]
                refine wpAnyH_take (i := 2) (oi := ⟨some 137, _, _, _, _, _⟩) (v := ?_) rfl (by kernel_rfl) (by kernel_rfl) (by kernel_rfl) (fun _ _ _ h => h) (Or.inl ⟨by rfl, ?_⟩) hH1 ?_
                rotate_left
                · intro w hSw
                  try dsimp only at hSw
                  go_simp
                  try with_reducible rfl
                try simp only [Act.put, List.setIfInBounds_toArray, List.set_cons_zero, List.set_cons_succ]
                refine wpAnyH_take (i := 3) (oi := ⟨some 138, _, _, _, _, _⟩) (v := ?_) rfl (by kernel_rfl) (by kernel_rfl) (by kernel_rfl) (fun _ _ _ h => h) (Or.inl ⟨by rfl, ?_⟩) hH1 ?_
                rotate_left
                · intro w hSw
                  try dsimp only at hSw
                  go_simp
                  try with_reducible rfl
                try simp only [Act.put, List.setIfInBounds_toArray, List.set_cons_zero, List.set_cons_succ]
                refine wpAnyH_take (i := 5) (oi := ⟨some 140, _, _, _, _, _⟩) (v := ?_) rfl (by kernel_rfl) (by kernel_rfl) (by kernel_rfl) (fun _ _ _ h => h) (Or.inl ⟨by rfl, ?_⟩) hH1 ?_
                rotate_left
                · intro w hSw
                  try dsimp only at hSw
                  go_simp
                  try with_reducible rfl
                try simp only [Act.put, List.setIfInBounds_toArray, List.set_cons_zero, List.set_cons_succ]
                refine wpAnyH_take (i := 6) (oi := ⟨some 141, _, _, _, _, _⟩) (v := ?_) rfl (by kernel_rfl) (by kernel_rfl) (by kernel_rfl) (fun _ _ _ h => h) (Or.inl ⟨by rfl, ?_⟩) hH1 ?_
                rotate_left
                · intro w hSw
                  try dsimp only at hSw
                  go_simp
                  try with_reducible rfl
                try simp only [Act.put, List.setIfInBounds_toArray, List.set_cons_zero, List.set_cons_succ]
                refine wpAnyH_ready (rs := [4]) (by kernel_rfl) (by simp) ?_
                refine AllReadyH.cons (o := ⟨some 139, _, _, _, _, _⟩) rfl (fun K hK => ?_) AllReadyH.nil
                go_simp
                refine (liv_has HHas.out HQ2.out H5l.out).mono ?_
                rintro e w9 ⟨rfl, rfl⟩
                go_wp2_with fail
                refine hK.out _ _ (K5.out) (fun hH2 => ?_)
                clear hK K hH1
                try simp only [Act.put, List.setIfInBounds_toArray, List.set_cons_zero, List.set_cons_succ]
                refine wpAnyH_ready (rs := [7]) (by kernel_rfl) (by simp) ?_
                refine AllReadyH.cons (o := ⟨some 142, _, _, _, _, _⟩) rfl (fun K hK => ?_) AllReadyH.nil
                go_simp
                refine (HRH.out _ H5.out.ref).mono ?_
                rintro e w6 ⟨rfl, hb6⟩
                have H6 := Lib.hid (H5.out.below hb6); have H6l := Lib.hid H6.out.liv; have K6 : Hid (Both w p lim L rb A' c' L w6 ∧ w6.cell? ⟨rb, 0, none⟩ = some (.int .i64 lim) ∧ w6.cell? ⟨rb, 1, none⟩ = some (.slice A' j c')) := Lib.hid ⟨H6.out, H6.out.cells.1.1, HQ2.out ▸ H6.out.cells.1.2⟩; clear hb6
                go_wp2_with fail
                refine hK.out _ _ (K6.out) (fun hH3 => ?_)
                clear hK K hH2
                try simp only [Act.put, List.setIfInBounds_toArray, List.set_cons_zero, List.set_cons_succ]
                refine wpAnyH_take (i := 8) (oi := ⟨some 143, _, _, _, _, _⟩) (v := ?_) rfl (by kernel_rfl) (by kernel_rfl) (by kernel_rfl) (fun _ _ _ h => h) (Or.inl ⟨by rfl, ?_⟩) hH3 ?_
                rotate_left
                · intro w hSw
                  try dsimp only at hSw
                  go_simp
                  try with_reducible rfl
                try simp only [Act.put, List.setIfInBounds_toArray, List.set_cons_zero, List.set_cons_succ]
                refine wpAnyH_take (i := 9) (oi := ⟨some 144, _, _, _, _, _⟩) (v := ?_) rfl (by kernel_rfl) (by kernel_rfl) (by kernel_rfl) (fun _ _ _ h => h) (Or.inl ⟨by rfl, ?_⟩) hH3 ?_
                rotate_left
                · intro w hSw
                  try dsimp only at hSw
                  go_simp
                  try with_reducible rfl
                try simp only [Act.put, List.setIfInBounds_toArray, List.set_cons_zero, List.set_cons_succ]
                refine wpAnyH_take (i := 10) (oi := ⟨some 145, _, _, _, _, _⟩) (v := ?_) rfl (by kernel_rfl) (by kernel_rfl) (by kernel_rfl) (fun _ _ _ h => h) (Or.inl ⟨by rfl, ?_⟩) hH3 ?_
                rotate_left
                · intro w hSw
                  try dsimp only at hSw
                  go_simp
                  try with_reducible rfl
                try simp only [Act.put, List.setIfInBounds_toArray, List.set_cons_zero, List.set_cons_succ]
                refine wpAnyH_take (i := 11) (oi := ⟨some 146, _, _, _, _, _⟩) (v := ?_) rfl (by kernel_rfl) (by kernel_rfl) (by kernel_rfl) (fun _ _ _ h => h) (Or.inl ⟨by rfl, ?_⟩) hH3 ?_
                rotate_left
                · intro w hSw
                  try dsimp only at hSw
                  go_simp
                  try with_reducible rfl
                try simp only [Act.put, List.setIfInBounds_toArray, List.set_cons_zero, List.set_cons_succ]
                refine wpAnyH_take (i := 12) (oi := ⟨some 147, _, _, _, _, _⟩) (v := ?_) rfl (by kernel_rfl) (by kernel_rfl) (by kernel_rfl) (fun _ _ _ h => h) (Or.inl ⟨by rfl, ?_⟩) hH3 ?_
                rotate_left
                · intro w hSw
                  try dsimp only at hSw
                  go_simp
                  try with_reducible rfl
                try simp only [Act.put, List.setIfInBounds_toArray, List.set_cons_zero, List.set_cons_succ]
                refine wpAnyH_take (i := 14) (oi := ⟨some 149, _, _, _, _, _⟩) (v := ?_) rfl (by kernel_rfl) (by kernel_rfl) (by kernel_rfl) (fun _ _ _ h => h) (Or.inl ⟨by rfl, ?_⟩) hH3 ?_
                rotate_left
                · intro w hSw
                  try dsimp only at hSw
                  go_simp
                  try with_reducible rfl
                try simp only [Act.put, List.setIfInBounds_toArray, List.set_cons_zero, List.set_cons_succ]
                refine wpAnyH_take (i := 15) (oi := ⟨some 150, _, _, _, _, _⟩) (v := ?_) rfl (by kernel_rfl) (by kernel_rfl) (by kernel_rfl) (fun _ _ _ h => h) (Or.inl ⟨by rfl, ?_⟩) hH3 ?_
                rotate_left
                · intro w hSw
                  try dsimp only at hSw
                  go_simp
                  try with_reducible rfl
                try simp only [Act.put, List.setIfInBounds_toArray, List.set_cons_zero, List.set_cons_succ]
                refine wpAnyH_ready (rs := [13]) (by kernel_rfl) (by simp) ?_
                refine AllReadyH.cons (o := ⟨some 148, _, _, _, _, _⟩) rfl (fun K hK => ?_) AllReadyH.nil
                go_simp
                refine (liv_var HVar.out H6l.out).mono ?_
                rintro e w9 ⟨rfl, rfl⟩
                go_wp2_with fail
                refine hK.out _ _ (K6.out) (fun hH4 => ?_)
                clear hK K hH3
                try simp only [Act.put, List.setIfInBounds_toArray, List.set_cons_zero, List.set_cons_succ]
                refine wpAnyH_ready (rs := [16]) (by kernel_rfl) (by simp) ?_
                refine AllReadyH.cons (o := ⟨some 151, _, _, _, _, _⟩) rfl (fun K hK => ?_) AllReadyH.nil
                go_simp
                refine (HRV.out _ H6.out.ref).mono ?_
                rintro e w7 ⟨rfl, hb7⟩
                have H7 := Lib.hid (H6.out.below hb7); have K7 : Hid (Both w p lim L rb A' c' L w7 ∧ w7.cell? ⟨rb, 0, none⟩ = some (.int .i64 lim) ∧ w7.cell? ⟨rb, 1, none⟩ = some (.slice A' j c')) := Lib.hid ⟨H7.out, H7.out.cells.1.1, HQ2.out ▸ H7.out.cells.1.2⟩; clear hb7
                go_wp2_with fail
                refine hK.out _ _ (K7.out) (fun hH5 => ?_)
                clear hK K hH4
                try simp only [Act.put, List.setIfInBounds_toArray, List.set_cons_zero, List.set_cons_succ]
                refine wpAnyH_take (i := 17) (oi := ⟨some 152, _, _, _, _, _⟩) (v := ?_) rfl (by kernel_rfl) (by kernel_rfl) (by kernel_rfl) (fun _ _ _ h => h) (Or.inl ⟨by rfl, ?_⟩) hH5 ?_
                rotate_left
                · intro w hSw
                  try dsimp only at hSw
                  go_simp
                  try with_reducible rfl
                try simp only [Act.put, List.setIfInBounds_toArray, List.set_cons_zero, List.set_cons_succ]
                refine wpAnyH_take (i := 18) (oi := ⟨some 153, _, _, _, _, _⟩) (v := ?_) rfl (by kernel_rfl) (by kernel_rfl) (by kernel_rfl) (fun _ _ _ h => h) (Or.inl ⟨by rfl, ?_⟩) hH5 ?_
                rotate_left
                · intro w hSw
                  try dsimp only at hSw
                  go_simp
                  try with_reducible rfl
                try simp only [Act.put, List.setIfInBounds_toArray, List.set_cons_zero, List.set_cons_succ]
                refine wpAnyH_take (i := 19) (oi := ⟨some 154, _, _, _, _, _⟩) (v := ?_) rfl (by kernel_rfl) (by kernel_rfl) (by kernel_rfl) (fun _ _ _ h => h) (Or.inl ⟨by rfl, ?_⟩) hH5 ?_
                rotate_left
                · intro w hSw
                  try dsimp only at hSw
                  go_simp
                  try with_reducible rfl
                try simp only [Act.put, List.setIfInBounds_toArray, List.set_cons_zero, List.set_cons_succ]
                refine wpAnyH_take (i := 20) (oi := ⟨some 155, _, _, _, _, _⟩) (v := ?_) rfl (by kernel_rfl) (by kernel_rfl) (by kernel_rfl) (fun _ _ _ h => h) (Or.inl ⟨by rfl, ?_⟩) hH5 ?_
                rotate_left
                · intro w hSw
                  try dsimp only at hSw
                  go_simp
                  try with_reducible rfl
                try simp only [Act.put, List.setIfInBounds_toArray, List.set_cons_zero, List.set_cons_succ]
                refine wpAnyH_take (i := 21) (oi := ⟨some 156, _, _, _, _, _⟩) (v := ?_) rfl (by kernel_rfl) (by kernel_rfl) (by kernel_rfl) (fun _ _ _ h => h) (Or.inl ⟨by rfl, ?_⟩) hH5 ?_
                rotate_left
                · intro w hSw
                  try dsimp only at hSw
                  go_simp
                  try with_reducible rfl
                try simp only [Act.put, List.setIfInBounds_toArray, List.set_cons_zero, List.set_cons_succ]
                refine wpAnyH_take (i := 22) (oi := ⟨some 157, _, _, _, _, _⟩) (v := ?_) rfl (by kernel_rfl) (by kernel_rfl) (by kernel_rfl) (fun _ _ _ h => h) (Or.inl ⟨by rfl, ?_⟩) hH5 ?_
                rotate_left
                · intro w hSw
                  try dsimp only at hSw
                  go_simp
                  try with_reducible rfl
                try simp only [Act.put, List.setIfInBounds_toArray, List.set_cons_zero, List.set_cons_succ]
                refine wpAnyH_take (i := 23) (oi := ⟨some 158, _, _, _, _, _⟩) (v := ?_) rfl (by kernel_rfl) (by kernel_rfl) (by kernel_rfl) (fun _ _ _ h => h) (Or.inl ⟨by rfl, ?_⟩) hH5 ?_
                rotate_left
                · intro w hSw
                  try dsimp only at hSw
                  go_simp
                  try with_reducible rfl
                try simp only [Act.put, List.setIfInBounds_toArray, List.set_cons_zero, List.set_cons_succ]
                refine wpAnyH_take (i := 24) (oi := ⟨some 159, _, _, _, _, _⟩) (v := ?_) rfl (by kernel_rfl) (by kernel_rfl) (by kernel_rfl) (fun _ _ _ h => h) (Or.inl ⟨by rfl, ?_⟩) hH5 ?_
                rotate_left
                · intro w hSw
                  try dsimp only at hSw
                  go_simp
                  try with_reducible rfl
                try simp only [Act.put, List.setIfInBounds_toArray, List.set_cons_zero, List.set_cons_succ]
                refine wpAnyH_take (i := 25) (oi := ⟨some 160, _, _, _, _, _⟩) (v := ?_) rfl (by kernel_rfl) (by kernel_rfl) (by kernel_rfl) (fun _ _ _ h => h) (Or.inl ⟨by rfl, ?_⟩) hH5 ?_
                rotate_left
                · intro w hSw
                  try dsimp only at hSw
                  go_simp
                  try with_reducible rfl
                try simp only [Act.put, List.setIfInBounds_toArray, List.set_cons_zero, List.set_cons_succ]
                refine wpAnyH_take (i := 26) (oi := ⟨some 161, _, _, _, _, _⟩) (v := ?_) rfl (by kernel_rfl) (by kernel_rfl) (by kernel_rfl) (fun _ _ _ h => h) (Or.inl ⟨by rfl, ?_⟩) hH5 ?_
                rotate_left
                · intro w hSw
                  try dsimp only at hSw
                  go_simp
                  try with_reducible rfl
                try simp only [Act.put, List.setIfInBounds_toArray, List.set_cons_zero, List.set_cons_succ]
                refine wpAnyH_take (i := 27) (oi := ⟨some 162, _, _, _, _, _⟩) (v := ?_) rfl (by kernel_rfl) (by kernel_rfl) (by kernel_rfl) (fun _ _ _ h => h) (Or.inl ⟨by rfl, ?_⟩) hH5 ?_
                rotate_left
                · intro w hSw
                  try dsimp only at hSw
                  go_simp
                  try with_reducible rfl
                try simp only [Act.put, List.setIfInBounds_toArray, List.set_cons_zero, List.set_cons_succ]
                refine wpAnyH_take (i := 28) (oi := ⟨some 163, _, _, _, _, _⟩) (v := ?_) rfl (by kernel_rfl) (by kernel_rfl) (by kernel_rfl) (fun _ _ _ h => h) (Or.inl ⟨by rfl, ?_⟩) hH5 ?_
                rotate_left
                · intro w hSw
                  try dsimp only at hSw
                  go_simp
                  try with_reducible rfl
                try simp only [Act.put, List.setIfInBounds_toArray, List.set_cons_zero, List.set_cons_succ]
                refine wpAnyH_take (i := 29) (oi := ⟨some 164, _, _, _, _, _⟩) (v := ?_) rfl (by kernel_rfl) (by kernel_rfl) (by kernel_rfl) (fun _ _ _ h => h) (Or.inl ⟨by rfl, ?_⟩) hH5 ?_
                rotate_left
                · intro w hSw
                  try dsimp only at hSw
                  go_simp
                  try with_reducible rfl
                try simp only [Act.put, List.setIfInBounds_toArray, List.set_cons_zero, List.set_cons_succ]
                refine wpAnyH_take (i := 30) (oi := ⟨some 165, _, _, _, _, _⟩) (v := ?_) rfl (by kernel_rfl) (by kernel_rfl) (by kernel_rfl) (fun _ _ _ h => h) (Or.inl ⟨by rfl, ?_⟩) hH5 ?_
                rotate_left
                · intro w hSw
                  try dsimp only at hSw
                  go_simp
                  try with_reducible rfl
                try simp only [Act.put, List.setIfInBounds_toArray, List.set_cons_zero, List.set_cons_succ]
                refine wpAnyH_take (i := 31) (oi := ⟨some 166, _, _, _, _, _⟩) (v := ?_) rfl (by kernel_rfl) (by kernel_rfl) (by kernel_rfl) (fun _ _ _ h => h) (Or.inl ⟨by rfl, ?_⟩) hH5 ?_
                rotate_left
                · intro w hSw
                  try dsimp only at hSw
                  go_simp
                  try with_reducible rfl
                try simp only [Act.put, List.setIfInBounds_toArray, List.set_cons_zero, List.set_cons_succ]
                refine wpAnyH_take (i := 32) (oi := ⟨some 167, _, _, _, _, _⟩) (v := ?_) rfl (by kernel_rfl) (by kernel_rfl) (by kernel_rfl) (fun _ _ _ h => h) (Or.inl ⟨by rfl, ?_⟩) hH5 ?_
                rotate_left
                · intro w hSw
                  try dsimp only at hSw
                  go_simp
                  try with_reducible rfl
                try simp only [Act.put, List.setIfInBounds_toArray, List.set_cons_zero, List.set_cons_succ]
                refine wpAnyH_take (i := 33) (oi := ⟨some 168, _, _, _, _, _⟩) (v := ?_) rfl (by kernel_rfl) (by kernel_rfl) (by kernel_rfl) (fun _ _ _ h => h) (Or.inl ⟨by rfl, ?_⟩) hH5 ?_
                rotate_left
                · intro w hSw
                  try dsimp only at hSw
                  go_simp
                  try with_reducible rfl
                try simp only [Act.put, List.setIfInBounds_toArray, List.set_cons_zero, List.set_cons_succ]
                refine wpAnyH_take (i := 35) (oi := ⟨some 170, _, _, _, _, _⟩) (v := ?_) rfl (by kernel_rfl) (by kernel_rfl) (by kernel_rfl) (fun _ _ _ h => h) (Or.inl ⟨by rfl, ?_⟩) hH5 ?_
                rotate_left
                · intro w hSw
                  try dsimp only at hSw
                  go_simp
                  try with_reducible rfl
                try simp only [Act.put, List.setIfInBounds_toArray, List.set_cons_zero, List.set_cons_succ]
                refine wpAnyH_ready (rs := [34]) (by kernel_rfl) (by simp) ?_
                refine AllReadyH.cons (o := ⟨some 169, _, _, _, _, _⟩) rfl (fun K hK => ?_) AllReadyH.nil
                go_simp
                refine (HTn.out _).mono ?_
                rintro e w9 ⟨rfl, rfl⟩
                go_wp2_with fail
                refine hK.out _ _ (K7.out) (fun hH6 => ?_)
                clear hK K hH5
                try simp only [Act.put, List.setIfInBounds_toArray, List.set_cons_zero, List.set_cons_succ]
                refine wpAnyH_ready (rs := [36]) (by kernel_rfl) (by simp) ?_
                refine AllReadyH.cons (o := ⟨some 171, _, _, _, _, _⟩) rfl (fun K hK => ?_) AllReadyH.nil
                go_simp
                refine (HTr.out _).mono ?_
                rintro e w9 ⟨rfl, rfl⟩
                go_wp2_with fail
                refine hK.out _ _ (K7.out) (fun hH7 => ?_)
                clear hK K hH6
                try simp only [Act.put, List.setIfInBounds_toArray, List.set_cons_zero, List.set_cons_succ]
                refine wpAnyH_take (i := 37) (oi := ⟨some 172, _, _, _, _, _⟩) (v := ?_) rfl (by kernel_rfl) (by kernel_rfl) (by kernel_rfl) (fun _ _ _ h => h) (Or.inl ⟨by rfl, ?_⟩) hH7 ?_
                rotate_left
                · intro w hSw
                  try dsimp only at hSw
                  go_simp
                  try with_reducible rfl
                try simp only [Act.put, List.setIfInBounds_toArray, List.set_cons_zero, List.set_cons_succ]
                refine wpAnyH_take (i := 38) (oi := ⟨some 173, _, _, _, _, _⟩) (v := ?_) rfl (by kernel_rfl) (by kernel_rfl) (by kernel_rfl) (fun _ _ _ h => h) (Or.inl ⟨by rfl, ?_⟩) hH7 ?_
                rotate_left
                · intro w hSw
                  try dsimp only at hSw
                  go_simp
                  try with_reducible rfl
                try simp only [Act.put, List.setIfInBounds_toArray, List.set_cons_zero, List.set_cons_succ]
                refine wpAnyH_take (i := 39) (oi := ⟨some 174, _, _, _, _, _⟩) (v := ?_) rfl (by kernel_rfl) (by kernel_rfl) (by kernel_rfl) (fun _ _ _ h => h) (Or.inl ⟨by rfl, ?_⟩) hH7 ?_
                rotate_left
                · intro w hSw
                  try dsimp only at hSw
                  go_simp
                  try with_reducible rfl
                try simp only [Act.put, List.setIfInBounds_toArray, List.set_cons_zero, List.set_cons_succ]
                refine wpAnyH_take (i := 40) (oi := ⟨some 175, _, _, _, _, _⟩) (v := ?_) rfl (by kernel_rfl) (by kernel_rfl) (by kernel_rfl) (fun _ _ _ h => h) (Or.inl ⟨by rfl, ?_⟩) hH7 ?_
                rotate_left
                · intro w hSw
                  try dsimp only at hSw
                  go_simp
                  try with_reducible rfl
                try simp only [Act.put, List.setIfInBounds_toArray, List.set_cons_zero, List.set_cons_succ]
                refine wpAnyH_take (i := 42) (oi := ⟨some 177, _, _, _, _, _⟩) (v := ?_) rfl (by kernel_rfl) (by kernel_rfl) (by kernel_rfl) (fun _ _ _ h => h) (Or.inl ⟨by rfl, ?_⟩) hH7 ?_
                rotate_left
                · intro w hSw
                  try dsimp only at hSw
                  go_simp
                  try with_reducible rfl
                try simp only [Act.put, List.setIfInBounds_toArray, List.set_cons_zero, List.set_cons_succ]
                refine wpAnyH_ready (rs := [41]) (by kernel_rfl) (by simp) ?_
                refine AllReadyH.cons (o := ⟨some 176, _, _, _, _, _⟩) rfl (fun K hK => ?_) AllReadyH.nil
                go_simp
                refine (HVn.out _).mono ?_
                rintro e w9 ⟨rfl, rfl⟩
                go_wp2_with fail
                refine hK.out _ _ (K7.out) (fun hH8 => ?_)
                clear hK K hH7
                try simp only [Act.put, List.setIfInBounds_toArray, List.set_cons_zero, List.set_cons_succ]
                refine wpAnyH_ready (rs := [43]) (by kernel_rfl) (by simp) ?_
                refine AllReadyH.cons (o := ⟨some 178, _, _, _, _, _⟩) rfl (fun K hK => ?_) AllReadyH.nil
                go_simp
                refine (HVr.out _).mono ?_
                rintro e w9 ⟨rfl, rfl⟩
                go_wp2_with fail
                refine hK.out _ _ (K7.out) (fun hH9 => ?_)
                clear hK K hH8
                try simp only [Act.put, List.setIfInBounds_toArray, List.set_cons_zero, List.set_cons_succ]
                refine wpAnyH_take (i := 44) (oi := ⟨some 179, _, _, _, _, _⟩) (v := ?_) rfl (by kernel_rfl) (by kernel_rfl) (by kernel_rfl) (fun _ _ _ h => h) (Or.inl ⟨by rfl, ?_⟩) hH9 ?_
                rotate_left
                · intro w hSw
                  try dsimp only at hSw
                  go_simp
                  try with_reducible rfl
                try simp only [Act.put, List.setIfInBounds_toArray, List.set_cons_zero, List.set_cons_succ]
                refine wpAnyH_take (i := 45) (oi := ⟨some 180, _, _, _, _, _⟩) (v := ?_) rfl (by kernel_rfl) (by kernel_rfl) (by kernel_rfl) (fun _ _ _ h => h) (Or.inl ⟨by rfl, ?_⟩) hH9 ?_
                rotate_left
                · intro w hSw
                  try dsimp only at hSw
                  go_simp
                  try with_reducible rfl
                try simp only [Act.put, List.setIfInBounds_toArray, List.set_cons_zero, List.set_cons_succ]
                refine wpAnyH_take (i := 46) (oi := ⟨some 181, _, _, _, _, _⟩) (v := ?_) rfl (by kernel_rfl) (by kernel_rfl) (by kernel_rfl) (fun _ _ _ h => h) (Or.inl ⟨by rfl, ?_⟩) hH9 ?_
                rotate_left
                · intro w hSw
                  try dsimp only at hSw
                  go_simp
                  try with_reducible rfl
                try simp only [Act.put, List.setIfInBounds_toArray, List.set_cons_zero, List.set_cons_succ]
                refine wpAnyH_take (i := 47) (oi := ⟨some 182, _, _, _, _, _⟩) (v := ?_) rfl (by kernel_rfl) (by kernel_rfl) (by kernel_rfl) (fun _ _ _ h => h) (Or.inl ⟨by rfl, ?_⟩) hH9 ?_
                rotate_left
                · intro w hSw
                  try dsimp only at hSw
                  go_simp
                  try with_reducible rfl
                try simp only [Act.put, List.setIfInBounds_toArray, List.set_cons_zero, List.set_cons_succ]
                refine wpAnyH_take (i := 49) (oi := ⟨some 184, _, _, _, _, _⟩) (v := ?_) rfl (by kernel_rfl) (by kernel_rfl) (by kernel_rfl) (fun _ _ _ h => h) (Or.inl ⟨by rfl, ?_⟩) hH9 ?_
                rotate_left
                · intro w hSw
                  try dsimp only at hSw
                  go_simp
                  try with_reducible rfl
                try simp only [Act.put, List.setIfInBounds_toArray, List.set_cons_zero, List.set_cons_succ]
                refine wpAnyH_take (i := 50) (oi := ⟨some 185, _, _, _, _, _⟩) (v := ?_) rfl (by kernel_rfl) (by kernel_rfl) (by kernel_rfl) (fun _ _ _ h => h) (Or.inl ⟨by rfl, ?_⟩) hH9 ?_
                rotate_left
                · intro w hSw
                  try dsimp only at hSw
                  go_simp
                  try with_reducible rfl
                try simp only [Act.put, List.setIfInBounds_toArray, List.set_cons_zero, List.set_cons_succ]
                refine wpAnyH_ready (rs := [48]) (by kernel_rfl) (by simp) ?_
                refine AllReadyH.cons (o := ⟨some 183, _, _, _, _, _⟩) rfl (fun K hK => ?_) AllReadyH.nil
                go_simp
                refine (HIs.out _).mono ?_
                rintro e w9 ⟨rfl, rfl⟩
                go_wp2_with fail
                refine hK.out _ _ (K7.out) (fun hH10 => ?_)
                clear hK K hH9
                try simp only [Act.put, List.setIfInBounds_toArray, List.set_cons_zero, List.set_cons_succ]
                refine wpAnyH_take (i := 51) (oi := ⟨some 186, _, _, _, _, _⟩) (v := ?_) rfl (by kernel_rfl) (by kernel_rfl) (by kernel_rfl) (fun _ _ _ h => h) (Or.inl ⟨by rfl, ?_⟩) hH10 ?_
                rotate_left
                · intro w hSw
                  try dsimp only at hSw
                  go_simp
                  try with_reducible rfl
                try simp only [Act.put, List.setIfInBounds_toArray, List.set_cons_zero, List.set_cons_succ]
                refine wpAnyH_take (i := 52) (oi := ⟨some 187, _, _, _, _, _⟩) (v := ?_) rfl (by kernel_rfl) (by kernel_rfl) (by kernel_rfl) (fun _ _ _ h => h) (Or.inl ⟨by rfl, ?_⟩) hH10 ?_
                rotate_left
                · intro w hSw
                  try dsimp only at hSw
                  go_simp
                  try with_reducible rfl
                try simp only [Act.put, List.setIfInBounds_toArray, List.set_cons_zero, List.set_cons_succ]
                refine wpAnyH_take (i := 53) (oi := ⟨some 6, _, _, _, _, _⟩) (v := ?_) rfl (by kernel_rfl) (by kernel_rfl) (by kernel_rfl) (fun _ _ _ h => h) (Or.inl ⟨by rfl, ?_⟩) hH10 ?_
                rotate_left
                · intro w hSw
                  try dsimp only at hSw
                  go_simp
                  try with_reducible rfl
                try simp only [Act.put, List.setIfInBounds_toArray, List.set_cons_zero, List.set_cons_succ]
                refine wpAnyH_done (by kernel_rfl) ?_ _
                go_wp2_with fail
                go_ret
                exact ⟨rfl, H7.out.liv.low⟩
              · have e2 : decide (r < (j : Int)) = false := decide_eq_false h2
                have HG := Lib.hid (liv_out (show ¬ (0 ≤ r ∧ r < (L.length : Int)) by have := HQ2.out; omega) HBl.out)
                clear h0 h2
                go_wp2_with (first
                  | (go_at_call 17; ((with_reducible refine (HG.out).mono ?_); rintro e w3 ⟨rfl, hb3⟩); have H3 := Lib.hid (HBj.out.below hb3); clear hb3))
                obtain ⟨V, hV⟩ : ∃ V, V = (w3.alloc (.cells #[.int .i64 0, .int .i64 0, .int .i64 0] 42)) := ⟨_, rfl⟩
                have H4 : Hid (Both w p lim L rb A' c' L V.drew) := Lib.hid (by rw [hV]; exact H3.out.below ((Below.refl w3.heap.size w3).alloc (Nat.le_refl _) _).drew)
                rw [← hV]
                clear hV
                have K0 : Hid (Both w p lim L rb A' c' L V.drew ∧ V.drew.cell? ⟨rb, 0, none⟩ = some (.int .i64 lim) ∧ V.drew.cell? ⟨rb, 1, none⟩ = some (.slice A' j c')) := Lib.hid ⟨H4.out, H4.out.cells.1.1, HQ2.out ▸ H4.out.cells.1.2⟩
                refine wp_region_held_drew (S := fun w' => Both w p lim L rb A' c' L w' ∧ w'.cell? ⟨rb, 0, none⟩ = some (.int .i64 lim) ∧ w'.cell? ⟨rb, 1, none⟩ = some (.slice A' j c')) (by kernel_rfl) K0.out (fun hH0 => ?_)
                refine wpAnyH_ready (rs := [0]) (by kernel_rfl) (by simp) ?_
                refine AllReadyH.cons (o := ⟨some 135, _, _, _, _, _⟩) rfl (fun K hK => ?_) AllReadyH.nil
                go_simp
                refine (alive_any _ (HE.out.below H4.out.liv.low) (HT.out.stays H4.out.liv.low)).mono ?_
                rintro e w5 ⟨rfl, hb5⟩
                have H5 := Lib.hid (H4.out.below hb5); have H5l := Lib.hid H5.out.liv; have K5 : Hid (Both w p lim L rb A' c' L w5 ∧ w5.cell? ⟨rb, 0, none⟩ = some (.int .i64 lim) ∧ w5.cell? ⟨rb, 1, none⟩ = some (.slice A' j c')) := Lib.hid ⟨H5.out, H5.out.cells.1.1, HQ2.out ▸ H5.out.cells.1.2⟩; clear hb5
                go_wp2_with fail
                refine hK.out _ _ (K5.out) (fun hH1 => ?_)
                clear hK K hH0
                try simp only [Act.put, List.setIfInBounds_toArray, List.set_cons_zero, List.set_cons_succ]
                refine wpAnyH_take (i := 1) (oi := ⟨some 136, _, _, _, _, _⟩) (v := ?_) rfl (by kernel_rfl) (by kernel_rfl) (by kernel_rfl) (fun _ _ _ h => h) (Or.inl ⟨by rfl, ?_⟩) hH1 ?_
                rotate_left
                · intro w hSw
                  try dsimp only at hSw
                  go_simp
                  try with_reducible rfl
                try simp only [Act.put, List.setIfInBounds_toArray, List.set_cons_zero, List.set_cons_succ]
                refine wpAnyH_take (i := 2) (oi := ⟨some 137, _, _, _, _, _⟩) (v := ?_) rfl (by kernel_rfl) (by kernel_rfl) (by kernel_rfl) (fun _ _ _ h => h) (Or.inl ⟨by rfl, ?_⟩) hH1 ?_
                rotate_left
                · intro w hSw
                  try dsimp only at hSw
                  go_simp
                  try with_reducible rfl
                try simp only [Act.put, List.setIfInBounds_toArray, List.set_cons_zero, List.set_cons_succ]
                refine wpAnyH_take (i := 3) (oi := ⟨some 138, _, _, _, _, _⟩) (v := ?_) rfl (by kernel_rfl) (by kernel_rfl) (by kernel_rfl) (fun _ _ _ h => h) (Or.inl ⟨by rfl, ?_⟩) hH1 ?_
                rotate_left
                · intro w hSw
                  try dsimp only at hSw
                  go_simp
                  try with_reducible rfl
                try simp only [Act.put, List.setIfInBounds_toArray, List.set_cons_zero, List.set_cons_succ]
                refine wpAnyH_take (i := 5) (oi := ⟨some 140, _, _, _, _, _⟩) (v := ?_) rfl (by kernel_rfl) (by kernel_rfl) (by kernel_rfl) (fun _ _ _ h => h) (Or.inl ⟨by rfl, ?_⟩) hH1 ?_
                rotate_left
                · intro w hSw
                  try dsimp only at hSw
                  go_simp
                  try with_reducible rfl
                try simp only [Act.put, List.setIfInBounds_toArray, List.set_cons_zero, List.set_cons_succ]
                refine wpAnyH_take (i := 6) (oi := ⟨some 141, _, _, _, _, _⟩) (v := ?_) rfl (by kernel_rfl) (by kernel_rfl) (by kernel_rfl) (fun _ _ _ h => h) (Or.inl ⟨by rfl, ?_⟩) hH1 ?_
                rotate_left
                · intro w hSw
                  try dsimp only at hSw
                  go_simp
                  try with_reducible rfl
                try simp only [Act.put, List.setIfInBounds_toArray, List.set_cons_zero, List.set_cons_succ]
                refine wpAnyH_ready (rs := [4]) (by kernel_rfl) (by simp) ?_
                refine AllReadyH.cons (o := ⟨some 139, _, _, _, _, _⟩) rfl (fun K hK => ?_) AllReadyH.nil
                go_simp
                refine (liv_has HHas.out HQ2.out H5l.out).mono ?_
                rintro e w9 ⟨rfl, rfl⟩
                go_wp2_with fail
                refine hK.out _ _ (K5.out) (fun hH2 => ?_)
                clear hK K hH1
                try simp only [Act.put, List.setIfInBounds_toArray, List.set_cons_zero, List.set_cons_succ]
                refine wpAnyH_ready (rs := [7]) (by kernel_rfl) (by simp) ?_
                refine AllReadyH.cons (o := ⟨some 142, _, _, _, _, _⟩) rfl (fun K hK => ?_) AllReadyH.nil
                go_simp
                refine (HRH.out _ H5.out.ref).mono ?_
                rintro e w6 ⟨rfl, hb6⟩
                have H6 := Lib.hid (H5.out.below hb6); have H6l := Lib.hid H6.out.liv; have K6 : Hid (Both w p lim L rb A' c' L w6 ∧ w6.cell? ⟨rb, 0, none⟩ = some (.int .i64 lim) ∧ w6.cell? ⟨rb, 1, none⟩ = some (.slice A' j c')) := Lib.hid ⟨H6.out, H6.out.cells.1.1, HQ2.out ▸ H6.out.cells.1.2⟩; clear hb6
                go_wp2_with fail
                refine hK.out _ _ (K6.out) (fun hH3 => ?_)
                clear hK K hH2
                try simp only [Act.put, List.setIfInBounds_toArray, List.set_cons_zero, List.set_cons_succ]
                refine wpAnyH_take (i := 8) (oi := ⟨some 143, _, _, _, _, _⟩) (v := ?_) rfl (by kernel_rfl) (by kernel_rfl) (by kernel_rfl) (fun _ _ _ h => h) (Or.inl ⟨by rfl, ?_⟩) hH3 ?_
                rotate_left
                · intro w hSw
                  try dsimp only at hSw
                  go_simp
                  try with_reducible rfl
                try simp only [Act.put, List.setIfInBounds_toArray, List.set_cons_zero, List.set_cons_succ]
                refine wpAnyH_take (i := 9) (oi := ⟨some 144, _, _, _, _, _⟩) (v := ?_) rfl (by kernel_rfl) (by kernel_rfl) (by kernel_rfl) (fun _ _ _ h => h) (Or.inl ⟨by rfl, ?_⟩) hH3 ?_
                rotate_left
                · intro w hSw
                  try dsimp only at hSw
                  go_simp
                  try with_reducible rfl
                try simp only [Act.put, List.setIfInBounds_toArray, List.set_cons_zero, List.set_cons_succ]
                refine wpAnyH_take (i := 10) (oi := ⟨some 145, _, _, _, _, _⟩) (v := ?_) rfl (by kernel_rfl) (by kernel_rfl) (by kernel_rfl) (fun _ _ _ h => h) (Or.inl ⟨by rfl, ?_⟩) hH3 ?_
                rotate_left
                · intro w hSw
                  try dsimp only at hSw
                  go_simp
                  try with_reducible rfl
                try simp only [Act.put, List.setIfInBounds_toArray, List.set_cons_zero, List.set_cons_succ]
                refine wpAnyH_take (i := 11) (oi := ⟨some 146, _, _, _, _, _⟩) (v := ?_) rfl (by kernel_rfl) (by kernel_rfl) (by kernel_rfl) (fun _ _ _ h => h) (Or.inl ⟨by rfl, ?_⟩) hH3 ?_
                rotate_left
                · intro w hSw
                  try dsimp only at hSw
                  go_simp
                  try with_reducible rfl
                try simp only [Act.put, List.setIfInBounds_toArray, List.set_cons_zero, List.set_cons_succ]
                refine wpAnyH_take (i := 12) (oi := ⟨some 147, _, _, _, _, _⟩) (v := ?_) rfl (by kernel_rfl) (by kernel_rfl) (by kernel_rfl) (fun _ _ _ h => h) (Or.inl ⟨by rfl, ?_⟩) hH3 ?_
                rotate_left
                · intro w hSw
                  try dsimp only at hSw
                  go_simp
                  try with_reducible rfl
                try simp only [Act.put, List.setIfInBounds_toArray, List.set_cons_zero, List.set_cons_succ]
                refine wpAnyH_take (i := 14) (oi := ⟨some 149, _, _, _, _, _⟩) (v := ?_) rfl (by kernel_rfl) (by kernel_rfl) (by kernel_rfl) (fun _ _ _ h => h) (Or.inl ⟨by rfl, ?_⟩) hH3 ?_
                rotate_left
                · intro w hSw
                  try dsimp only at hSw
                  go_simp
                  try with_reducible rfl
                try simp only [Act.put, List.setIfInBounds_toArray, List.set_cons_zero, List.set_cons_succ]
                refine wpAnyH_take (i := 15) (oi := ⟨some 150, _, _, _, _, _⟩) (v := ?_) rfl (by kernel_rfl) (by kernel_rfl) (by kernel_rfl) (fun _ _ _ h => h) (Or.inl ⟨by rfl, ?_⟩) hH3 ?_
                rotate_left
                · intro w hSw
                  try dsimp only at hSw
                  go_simp
                  try with_reducible rfl
                try simp only [Act.put, List.setIfInBounds_toArray, List.set_cons_zero, List.set_cons_succ]
                refine wpAnyH_ready (rs := [13]) (by kernel_rfl) (by simp) ?_
                refine AllReadyH.cons (o := ⟨some 148, _, _, _, _, _⟩) rfl (fun K hK => ?_) AllReadyH.nil
                go_simp
                refine (liv_var HVar.out H6l.out).mono ?_
                rintro e w9 ⟨rfl, rfl⟩
                go_wp2_with fail
                refine hK.out _ _ (K6.out) (fun hH4 => ?_)
                clear hK K hH3
                try simp only [Act.put, List.setIfInBounds_toArray, List.set_cons_zero, List.set_cons_succ]
                refine wpAnyH_ready (rs := [16]) (by kernel_rfl) (by simp) ?_
                refine AllReadyH.cons (o := ⟨some 151, _, _, _, _, _⟩) rfl (fun K hK => ?_) AllReadyH.nil
                go_simp
                refine (HRV.out _ H6.out.ref).mono ?_
                rintro e w7 ⟨rfl, hb7⟩
                have H7 := Lib.hid (H6.out.below hb7); have K7 : Hid (Both w p lim L rb A' c' L w7 ∧ w7.cell? ⟨rb, 0, none⟩ = some (.int .i64 lim) ∧ w7.cell? ⟨rb, 1, none⟩ = some (.slice A' j c')) := Lib.hid ⟨H7.out, H7.out.cells.1.1, HQ2.out ▸ H7.out.cells.1.2⟩; clear hb7
                go_wp2_with fail
                refine hK.out _ _ (K7.out) (fun hH5 => ?_)
                clear hK K hH4
                try simp only [Act.put, List.setIfInBounds_toArray, List.set_cons_zero, List.set_cons_succ]
                refine wpAnyH_take (i := 17) (oi := ⟨some 152, _, _, _, _, _⟩) (v := ?_) rfl (by kernel_rfl) (by kernel_rfl) (by kernel_rfl) (fun _ _ _ h => h) (Or.inl ⟨by rfl, ?_⟩) hH5 ?_
                rotate_left
                · intro w hSw
                  try dsimp only at hSw
                  go_simp
                  try with_reducible rfl
                try simp only [Act.put, List.setIfInBounds_toArray, List.set_cons_zero, List.set_cons_succ]
                refine wpAnyH_take (i := 18) (oi := ⟨some 153, _, _, _, _, _⟩) (v := ?_) rfl (by kernel_rfl) (by kernel_rfl) (by kernel_rfl) (fun _ _ _ h => h) (Or.inl ⟨by rfl, ?_⟩) hH5 ?_
                rotate_left
                · intro w hSw
                  try dsimp only at hSw
                  go_simp
                  try with_reducible rfl
                try simp only [Act.put, List.setIfInBounds_toArray, List.set_cons_zero, List.set_cons_succ]
                refine wpAnyH_take (i := 19) (oi := ⟨some 154, _, _, _, _, _⟩) (v := ?_) rfl (by kernel_rfl) (by kernel_rfl) (by kernel_rfl) (fun _ _ _ h => h) (Or.inl ⟨by rfl, ?_⟩) hH5 ?_
                rotate_left
                · intro w hSw
                  try dsimp only at hSw
                  go_simp
                  try with_reducible rfl
                try simp only [Act.put, List.setIfInBounds_toArray, List.set_cons_zero, List.set_cons_succ]
                refine wpAnyH_take (i := 20) (oi := ⟨some 155, _, _, _, _, _⟩) (v := ?_) rfl (by kernel_rfl) (by kernel_rfl) (by kernel_rfl) (fun _ _ _ h => h) (Or.inl ⟨by rfl, ?_⟩) hH5 ?_
                rotate_left
                · intro w hSw
                  try dsimp only at hSw
                  go_simp
                  try with_reducible rfl
                try simp only [Act.put, List.setIfInBounds_toArray, List.set_cons_zero, List.set_cons_succ]
                refine wpAnyH_take (i := 21) (oi := ⟨some 156, _, _, _, _, _⟩) (v := ?_) rfl (by kernel_rfl) (by kernel_rfl) (by kernel_rfl) (fun _ _ _ h => h) (Or.inl ⟨by rfl, ?_⟩) hH5 ?_
                rotate_left
                · intro w hSw
                  try dsimp only at hSw
                  go_simp
                  try with_reducible rfl
                try simp only [Act.put, List.setIfInBounds_toArray, List.set_cons_zero, List.set_cons_succ]
                refine wpAnyH_take (i := 22) (oi := ⟨some 157, _, _, _, _, _⟩) (v := ?_) rfl (by kernel_rfl) (by kernel_rfl) (by kernel_rfl) (fun _ _ _ h => h) (Or.inl ⟨by rfl, ?_⟩) hH5 ?_
                rotate_left
                · intro w hSw
                  try dsimp only at hSw
                  go_simp
                  try with_reducible rfl
                try simp only [Act.put, List.setIfInBounds_toArray, List.set_cons_zero, List.set_cons_succ]
                refine wpAnyH_take (i := 23) (oi := ⟨some 158, _, _, _, _, _⟩) (v := ?_) rfl (by kernel_rfl) (by kernel_rfl) (by kernel_rfl) (fun _ _ _ h => h) (Or.inl ⟨by rfl, ?_⟩) hH5 ?_
                rotate_left
                · intro w hSw
                  try dsimp only at hSw
                  go_simp
                  try with_reducible rfl
                try simp only [Act.put, List.setIfInBounds_toArray, List.set_cons_zero, List.set_cons_succ]
                refine wpAnyH_take (i := 24) (oi := ⟨some 159, _, _, _, _, _⟩) (v := ?_) rfl (by kernel_rfl) (by kernel_rfl) (by kernel_rfl) (fun _ _ _ h => h) (Or.inl ⟨by rfl, ?_⟩) hH5 ?_
                rotate_left
                · intro w hSw
                  try dsimp only at hSw
                  go_simp
                  try with_reducible rfl
                try simp only [Act.put, List.setIfInBounds_toArray, List.set_cons_zero, List.set_cons_succ]
                refine wpAnyH_take (i := 25) (oi := ⟨some 160, _, _, _, _, _⟩) (v := ?_) rfl (by kernel_rfl) (by kernel_rfl) (by kernel_rfl) (fun _ _ _ h => h) (Or.inl ⟨by rfl, ?_⟩) hH5 ?_
                rotate_left
                · intro w hSw
                  try dsimp only at hSw
                  go_simp
                  try with_reducible rfl
                try simp only [Act.put, List.setIfInBounds_toArray, List.set_cons_zero, List.set_cons_succ]
                refine wpAnyH_take (i := 26) (oi := ⟨some 161, _, _, _, _, _⟩) (v := ?_) rfl (by kernel_rfl) (by kernel_rfl) (by kernel_rfl) (fun _ _ _ h => h) (Or.inl ⟨by rfl, ?_⟩) hH5 ?_
                rotate_left
                · intro w hSw
                  try dsimp only at hSw
                  go_simp
                  try with_reducible rfl
                try simp only [Act.put, List.setIfInBounds_toArray, List.set_cons_zero, List.set_cons_succ]
                refine wpAnyH_take (i := 27) (oi := ⟨some 162, _, _, _, _, _⟩) (v := ?_) rfl (by kernel_rfl) (by kernel_rfl) (by kernel_rfl) (fun _ _ _ h => h) (Or.inl ⟨by rfl, ?_⟩) hH5 ?_
                rotate_left
                · intro w hSw
                  try dsimp only at hSw
                  go_simp
                  try with_reducible rfl
                try simp only [Act.put, List.setIfInBounds_toArray, List.set_cons_zero, List.set_cons_succ]
                refine wpAnyH_take (i := 28) (oi := ⟨some 163, _, _, _, _, _⟩) (v := ?_) rfl (by kernel_rfl) (by kernel_rfl) (by kernel_rfl) (fun _ _ _ h => h) (Or.inl ⟨by rfl, ?_⟩) hH5 ?_
                rotate_left
                · intro w hSw
                  try dsimp only at hSw
                  go_simp
                  try with_reducible rfl
                try simp only [Act.put, List.setIfInBounds_toArray, List.set_cons_zero, List.set_cons_succ]
                refine wpAnyH_take (i := 29) (oi := ⟨some 164, _, _, _, _, _⟩) (v := ?_) rfl (by kernel_rfl) (by kernel_rfl) (by kernel_rfl) (fun _ _ _ h => h) (Or.inl ⟨by rfl, ?_⟩) hH5 ?_
                rotate_left
                · intro w hSw
                  try dsimp only at hSw
                  go_simp
                  try with_reducible rfl
                try simp only [Act.put, List.setIfInBounds_toArray, List.set_cons_zero, List.set_cons_succ]
                refine wpAnyH_take (i := 30) (oi := ⟨some 165, _, _, _, _, _⟩) (v := ?_) rfl (by kernel_rfl) (by kernel_rfl) (by kernel_rfl) (fun _ _ _ h => h) (Or.inl ⟨by rfl, ?_⟩) hH5 ?_
                rotate_left
                · intro w hSw
                  try dsimp only at hSw
                  go_simp
                  try with_reducible rfl
                try simp only [Act.put, List.setIfInBounds_toArray, List.set_cons_zero, List.set_cons_succ]
                refine wpAnyH_take (i := 31) (oi := ⟨some 166, _, _, _, _, _⟩) (v := ?_) rfl (by kernel_rfl) (by kernel_rfl) (by kernel_rfl) (fun _ _ _ h => h) (Or.inl ⟨by rfl, ?_⟩) hH5 ?_
                rotate_left
                · intro w hSw
                  try dsimp only at hSw
                  go_simp
                  try with_reducible rfl
                try simp only [Act.put, List.setIfInBounds_toArray, List.set_cons_zero, List.set_cons_succ]
                refine wpAnyH_take (i := 32) (oi := ⟨some 167, _, _, _, _, _⟩) (v := ?_) rfl (by kernel_rfl) (by kernel_rfl) (by kernel_rfl) (fun _ _ _ h => h) (Or.inl ⟨by rfl, ?_⟩) hH5 ?_
                rotate_left
                · intro w hSw
                  try dsimp only at hSw
                  go_simp
                  try with_reducible rfl
                try simp only [Act.put, List.setIfInBounds_toArray, List.set_cons_zero, List.set_cons_succ]
                refine wpAnyH_take (i := 33) (oi := ⟨some 168, _, _, _, _, _⟩) (v := ?_) rfl (by kernel_rfl) (by kernel_rfl) (by kernel_rfl) (fun _ _ _ h => h) (Or.inl ⟨by rfl, ?_⟩) hH5 ?_
                rotate_left
                · intro w hSw
                  try dsimp only at hSw
                  go_simp
                  try with_reducible rfl
                try simp only [Act.put, List.setIfInBounds_toArray, List.set_cons_zero, List.set_cons_succ]
                refine wpAnyH_take (i := 35) (oi := ⟨some 170, _, _, _, _, _⟩) (v := ?_) rfl (by kernel_rfl) (by kernel_rfl) (by kernel_rfl) (fun _ _ _ h => h) (Or.inl ⟨by rfl, ?_⟩) hH5 ?_
                rotate_left
                · intro w hSw
                  try dsimp only at hSw
                  go_simp
                  try with_reducible rfl
                try simp only [Act.put, List.setIfInBounds_toArray, List.set_cons_zero, List.set_cons_succ]
                refine wpAnyH_ready (rs := [34]) (by kernel_rfl) (by simp) ?_
                refine AllReadyH.cons (o := ⟨some 169, _, _, _, _, _⟩) rfl (fun K hK => ?_) AllReadyH.nil
                go_simp
                refine (HTn.out _).mono ?_
                rintro e w9 ⟨rfl, rfl⟩
                go_wp2_with fail
                refine hK.out _ _ (K7.out) (fun hH6 => ?_)
                clear hK K hH5
                try simp only [Act.put, List.setIfInBounds_toArray, List.set_cons_zero, List.set_cons_succ]
                refine wpAnyH_ready (rs := [36]) (by kernel_rfl) (by simp) ?_
                refine AllReadyH.cons (o := ⟨some 171, _, _, _, _, _⟩) rfl (fun K hK => ?_) AllReadyH.nil
                go_simp
                refine (HTr.out _).mono ?_
                rintro e w9 ⟨rfl, rfl⟩
                go_wp2_with fail
                refine hK.out _ _ (K7.out) (fun hH7 => ?_)
                clear hK K hH6
                try simp only [Act.put, List.setIfInBounds_toArray, List.set_cons_zero, List.set_cons_succ]
                refine wpAnyH_take (i := 37) (oi := ⟨some 172, _, _, _, _, _⟩) (v := ?_) rfl (by kernel_rfl) (by kernel_rfl) (by kernel_rfl) (fun _ _ _ h => h) (Or.inl ⟨by rfl, ?_⟩) hH7 ?_
                rotate_left
                · intro w hSw
                  try dsimp only at hSw
                  go_simp
                  try with_reducible rfl
                try simp only [Act.put, List.setIfInBounds_toArray, List.set_cons_zero, List.set_cons_succ]
                refine wpAnyH_take (i := 38) (oi := ⟨some 173, _, _, _, _, _⟩) (v := ?_) rfl (by kernel_rfl) (by kernel_rfl) (by kernel_rfl) (fun _ _ _ h => h) (Or.inl ⟨by rfl, ?_⟩) hH7 ?_
                rotate_left
                · intro w hSw
                  try dsimp only at hSw
                  go_simp
                  try with_reducible rfl
                try simp only [Act.put, List.setIfInBounds_toArray, List.set_cons_zero, List.set_cons_succ]
                refine wpAnyH_take (i := 39) (oi := ⟨some 174, _, _, _, _, _⟩) (v := ?_) rfl (by kernel_rfl) (by kernel_rfl) (by kernel_rfl) (fun _ _ _ h => h) (Or.inl ⟨by rfl, ?_⟩) hH7 ?_
                rotate_left
                · intro w hSw
                  try dsimp only at hSw
                  go_simp
                  try with_reducible rfl
                try simp only [Act.put, List.setIfInBounds_toArray, List.set_cons_zero, List.set_cons_succ]
                refine wpAnyH_take (i := 40) (oi := ⟨some 175, _, _, _, _, _⟩) (v := ?_) rfl (by kernel_rfl) (by kernel_rfl) (by kernel_rfl) (fun _ _ _ h => h) (Or.inl ⟨by rfl, ?_⟩) hH7 ?_
                rotate_left
                · intro w hSw
                  try dsimp only at hSw
                  go_simp
                  try with_reducible rfl
                try simp only [Act.put, List.setIfInBounds_toArray, List.set_cons_zero, List.set_cons_succ]
                refine wpAnyH_take (i := 42) (oi := ⟨some 177, _, _, _, _, _⟩) (v := ?_) rfl (by kernel_rfl) (by kernel_rfl) (by kernel_rfl) (fun _ _ _ h => h) (Or.inl ⟨by rfl, ?_⟩) hH7 ?_
                rotate_left
                · intro w hSw
                  try dsimp only at hSw
                  go_simp
                  try with_reducible rfl
                try simp only [Act.put, List.setIfInBounds_toArray, List.set_cons_zero, List.set_cons_succ]
                refine wpAnyH_ready (rs := [41]) (by kernel_rfl) (by simp) ?_
                refine AllReadyH.cons (o := ⟨some 176, _, _, _, _, _⟩) rfl (fun K hK => ?_) AllReadyH.nil
                go_simp
                refine (HVn.out _).mono ?_
                rintro e w9 ⟨rfl, rfl⟩
                go_wp2_with fail
                refine hK.out _ _ (K7.out) (fun hH8 => ?_)
                clear hK K hH7
                try simp only [Act.put, List.setIfInBounds_toArray, List.set_cons_zero, List.set_cons_succ]
                refine wpAnyH_ready (rs := [43]) (by kernel_rfl) (by simp) ?_
                refine AllReadyH.cons (o := ⟨some 178, _, _, _, _, _⟩) rfl (fun K hK => ?_) AllReadyH.nil
                go_simp
                refine (HVr.out _).mono ?_
                rintro e w9 ⟨rfl, rfl⟩
                go_wp2_with fail
                refine hK.out _ _ (K7.out) (fun hH9 => ?_)
                clear hK K hH8
                try simp only [Act.put, List.setIfInBounds_toArray, List.set_cons_zero, List.set_cons_succ]
                refine wpAnyH_take (i := 44) (oi := ⟨some 179, _, _, _, _, _⟩) (v := ?_) rfl (by kernel_rfl) (by kernel_rfl) (by kernel_rfl) (fun _ _ _ h => h) (Or.inl ⟨by rfl, ?_⟩) hH9 ?_
                rotate_left
                · intro w hSw
                  try dsimp only at hSw
                  go_simp
                  try with_reducible rfl
                try simp only [Act.put, List.setIfInBounds_toArray, List.set_cons_zero, List.set_cons_succ]
                refine wpAnyH_take (i := 45) (oi := ⟨some 180, _, _, _, _, _⟩) (v := ?_) rfl (by kernel_rfl) (by kernel_rfl) (by kernel_rfl) (fun _ _ _ h => h) (Or.inl ⟨by rfl, ?_⟩) hH9 ?_
                rotate_left
                · intro w hSw
                  try dsimp only at hSw
                  go_simp
                  try with_reducible rfl
                try simp only [Act.put, List.setIfInBounds_toArray, List.set_cons_zero, List.set_cons_succ]
                refine wpAnyH_take (i := 46) (oi := ⟨some 181, _, _, _, _, _⟩) (v := ?_) rfl (by kernel_rfl) (by kernel_rfl) (by kernel_rfl) (fun _ _ _ h => h) (Or.inl ⟨by rfl, ?_⟩) hH9 ?_
                rotate_left
                · intro w hSw
                  try dsimp only at hSw
                  go_simp
                  try with_reducible rfl
                try simp only [Act.put, List.setIfInBounds_toArray, List.set_cons_zero, List.set_cons_succ]
                refine wpAnyH_take (i := 47) (oi := ⟨some 182, _, _, _, _, _⟩) (v := ?_) rfl (by kernel_rfl) (by kernel_rfl) (by kernel_rfl) (fun _ _ _ h => h) (Or.inl ⟨by rfl, ?_⟩) hH9 ?_
                rotate_left
                · intro w hSw
                  try dsimp only at hSw
                  go_simp
                  try with_reducible rfl
                try simp only [Act.put, List.setIfInBounds_toArray, List.set_cons_zero, List.set_cons_succ]
                refine wpAnyH_take (i := 49) (oi := ⟨some 184, _, _, _, _, _⟩) (v := ?_) rfl (by kernel_rfl) (by kernel_rfl) (by kernel_rfl) (fun _ _ _ h => h) (Or.inl ⟨by rfl, ?_⟩) hH9 ?_
                rotate_left
                · intro w hSw
                  try dsimp only at hSw
                  go_simp
                  try with_reducible rfl
                try simp only [Act.put, List.setIfInBounds_toArray, List.set_cons_zero, List.set_cons_succ]
                refine wpAnyH_take (i := 50) (oi := ⟨some 185, _, _, _, _, _⟩) (v := ?_) rfl (by kernel_rfl) (by kernel_rfl) (by kernel_rfl) (fun _ _ _ h => h) (Or.inl ⟨by rfl, ?_⟩) hH9 ?_
                rotate_left
                · intro w hSw
                  try dsimp only at hSw
                  go_simp
                  try with_reducible rfl
                try simp only [Act.put, List.setIfInBounds_toArray, List.set_cons_zero, List.set_cons_succ]
                refine wpAnyH_ready (rs := [48]) (by kernel_rfl) (by simp) ?_
                refine AllReadyH.cons (o := ⟨some 183, _, _, _, _, _⟩) rfl (fun K hK => ?_) AllReadyH.nil
                go_simp
                refine (HIs.out _).mono ?_
                rintro e w9 ⟨rfl, rfl⟩
                go_wp2_with fail
                refine hK.out _ _ (K7.out) (fun hH10 => ?_)
                clear hK K hH9
                try simp only [Act.put, List.setIfInBounds_toArray, List.set_cons_zero, List.set_cons_succ]
                refine wpAnyH_take (i := 51) (oi := ⟨some 186, _, _, _, _, _⟩) (v := ?_) rfl (by kernel_rfl) (by kernel_rfl) (by kernel_rfl) (fun _ _ _ h => h) (Or.inl ⟨by rfl, ?_⟩) hH10 ?_
                rotate_left
                · intro w hSw
                  try dsimp only at hSw
                  go_simp
                  try with_reducible rfl
                try simp only [Act.put, List.setIfInBounds_toArray, List.set_cons_zero, List.set_cons_succ]
                refine wpAnyH_take (i := 52) (oi := ⟨some 187, _, _, _, _, _⟩) (v := ?_) rfl (by kernel_rfl) (by kernel_rfl) (by kernel_rfl) (fun _ _ _ h => h) (Or.inl ⟨by rfl, ?_⟩) hH10 ?_
                rotate_left
                · intro w hSw
                  try dsimp only at hSw
                  go_simp
                  try with_reducible rfl
                try simp only [Act.put, List.setIfInBounds_toArray, List.set_cons_zero, List.set_cons_succ]
                refine wpAnyH_take (i := 53) (oi := ⟨some 6, _, _, _, _, _⟩) (v := ?_) rfl (by kernel_rfl) (by kernel_rfl) (by kernel_rfl) (fun _ _ _ h => h) (Or.inl ⟨by rfl, ?_⟩) hH10 ?_
                rotate_left
                · intro w hSw
                  try dsimp only at hSw
                  go_simp
                  try with_reducible rfl
                try simp only [Act.put, List.setIfInBounds_toArray, List.set_cons_zero, List.set_cons_succ]
                refine wpAnyH_done (by kernel_rfl) ?_ _
                go_wp2_with fail
                go_ret
                exact ⟨rfl, H7.out.liv.low⟩
end Go.Proofs.YtchipmiklbnedaaDoor
