/- The contract of the document's Mk: a node is added. -/
import Derived.Test.YtlddelnbjihhgaaDoorNRefFind
namespace Go.Proofs.YtlddelnbjihhgaaDoor
open Go.RowKit
attribute [local go_sem ↓] Go.wp_at_zero Go.wp_at_succ

/-- Behind the append: the box has the longer row; the result's cell is as it was. -/
def AddR (W0 : World) (lim : Nat) (L : List Nd) (x : Nd) (t : Value) (W : World) : Prop :=
  ∃ A c, t = .slice A (L.length + 1) c ∧ Blk W W0.heap.size 46 #[.int .i64 lim, .slice A (L.length + 1) c] ∧ Blk W (W0.heap.size + 1) 46 #[.int .i64 0, .slice none 0 0] ∧
    W.ownsRow 0 105 3 (.slice A (L.length + 1) c) (L.length + 1) (cellsL (L ++ [x])) ∧ Below W0.heap.size W0 W
theorem form_of {W : World} {base n size : Nat} {e : TypeId} {v : Value} {xs : List Value} (h : W.ownsRow base e size v (0 + n) xs) : ∃ A c, v = .slice A n c := by
  rw [Nat.zero_add] at h
  rcases h.2 with ⟨h', h0⟩ | ⟨g, cap, cur, h', _⟩
  · exact ⟨none, 0, by rw [h', h0]⟩
  · exact ⟨_, _, h'⟩
theorem own_lists {W : World} {base n size : Nat} {e : TypeId} {v : Value} {xs : List Value} (h : W.ownsRow base e size v (0 + n) ([] ++ xs)) : W.ownsRow base e size v n xs := by
  rw [Nat.zero_add, List.nil_append] at h; exact h
theorem addr_of {W wr w6 : World} {lim c c6 : Nat} {A A6 : Option Addr} {L : List Nd} {x1 x2 x3 : Int} (hS : StR W lim A c L wr) (hb : Below wr.heap.size wr w6) (ho : w6.ownsRow wr.heap.size 105 3 (.slice A6 (L.length + 1) c6) (L.length + 1) (cellsL L ++ [.int .i64 x1, .int .i64 x2, .int .i64 x3])) :
    AddR W lim L (x1, x2, x3) (.slice A6 (L.length + 1) c6) (w6.setCell ⟨W.heap.size, 1, none⟩ (.slice A6 (L.length + 1) c6)) := by
  have h6 := hS.below hb
  have ho0 : w6.ownsRow 0 105 3 (.slice A6 (L.length + 1) c6) (L.length + 1) (cellsL L ++ [.int .i64 x1, .int .i64 x2, .int .i64 x3]) := by
    refine ⟨ho.1, ?_⟩
    rcases ho.2 with h | ⟨k, cap, cur, h1, _, h3⟩
    · exact .inl h
    · exact .inr ⟨k, cap, cur, h1, Nat.zero_le _, h3⟩
  refine ⟨A6, c6, rfl, ?_, h6.res.far (p := ⟨W.heap.size, 1, none⟩) (Nat.succ_ne_self _) _, ?_, h6.low.setCell (Nat.le_refl _) _⟩
  · have := h6.box.set_ 1 (.slice A6 (L.length + 1) c6)
    simpa using this
  · rw [cellsL_snoc]
    exact ho0.kept (grown_set w6 ⟨W.heap.size, 1, none⟩ _) (.inr (own_blk_ne ho0 h6.box (by decide)))
/-- The result, stored. -/
theorem addr_done {W0 w : World} {lim c : Nat} {A : Option Addr} {L : List Nd} {x : Nd} (hr : Blk w (W0.heap.size + 1) 46 #[.int .i64 0, .slice none 0 0]) (ho : w.ownsRow 0 105 3 (.slice A (L.length + 1) c) (L.length + 1) (cellsL (L ++ [x]))) (hf : L.length + 1 ≤ 4000) (hl : Below W0.heap.size W0 w) :
    (RefA ((w.setCell ⟨W0.heap.size + 1, 0, none⟩ (.int .i64 lim)).setCell ⟨W0.heap.size + 1, 1, none⟩ (.slice A (L.length + 1) c)) A c (L ++ [x]) ∧ Below W0.heap.size W0 ((w.setCell ⟨W0.heap.size + 1, 0, none⟩ (.int .i64 lim)).setCell ⟨W0.heap.size + 1, 1, none⟩ (.slice A (L.length + 1) c))) ∧
      ((w.setCell ⟨W0.heap.size + 1, 0, none⟩ (.int .i64 lim)).setCell ⟨W0.heap.size + 1, 1, none⟩ (.slice A (L.length + 1) c)).cell? ⟨W0.heap.size + 1, 0, none⟩ = some (.int .i64 lim) ∧ ((w.setCell ⟨W0.heap.size + 1, 0, none⟩ (.int .i64 lim)).setCell ⟨W0.heap.size + 1, 1, none⟩ (.slice A (L.length + 1) c)).cell? ⟨W0.heap.size + 1, 1, none⟩ = some (.slice A (L.length + 1) c) := by
  have hne := own_blk_ne ho hr (by decide)
  have h1 := ho.kept (grown_set w ⟨W0.heap.size + 1, 0, none⟩ (.int .i64 lim)) (.inr hne)
  have h2 := h1.kept (grown_set _ ⟨W0.heap.size + 1, 1, none⟩ (.slice A (L.length + 1) c)) (.inr hne)
  have hres := (hr.set_ 0 (.int .i64 lim)).set_ 1 (.slice A (L.length + 1) c)
  have r0 := hres.cell 0
  have r1 := hres.cell 1
  simp only [List.setIfInBounds_toArray, List.set_cons_zero, List.set_cons_succ, List.getElem?_toArray, List.getElem?_cons_zero, List.getElem?_cons_succ] at r0 r1
  refine ⟨⟨⟨by rw [List.length_append, List.length_singleton]; exact h2, by simpa using hf⟩, (hl.setCell (by show W0.heap.size ≤ W0.heap.size + 1; omega) _).setCell (by show W0.heap.size ≤ W0.heap.size + 1; omega) _⟩, r0, r1⟩
theorem ne_own {g b : Nat} {n c : Nat} (h : g ≠ b) : some g ≠ (Value.slice (some ⟨b, 0, none⟩) n c).ownBlock := fun e => h (Option.some.inj e)
theorem own_ge {B b n c : Nat} (h : B ≤ b) : ∀ k, (Value.slice (some ⟨b, 0, none⟩) n c).ownBlock = some k → B ≤ k := fun _ e => (Option.some.inj e) ▸ h
theorem two_blks (w : World) (t u : TypeId) (xs ys : Array Value) : Blk ((w.alloc (.cells xs t)).alloc (.cells ys u)).drew w.heap.size t xs ∧ Blk ((w.alloc (.cells xs t)).alloc (.cells ys u)).drew (w.heap.size + 1) u ys := by
  constructor
  · exact (Below.heap_alloc _ _ _ (by simp)).trans (Blk.new w t xs)
  · have := Blk.new (w.alloc (.cells xs t)) u ys
    rw [World.size_alloc] at this
    exact this
theorem three_atR (w : World) (a b c : Value) (t : TypeId) : ∀ (j : Nat) (u : Value), [a, b, c][j]? = some u → (w.alloc (.cells #[a, b, c] t)).cell? ((⟨w.heap.size, 0, none⟩ : Addr).add j) = some u := fun j u h => by
  rw [Addr.add_lit, Nat.zero_add]
  exact ((Blk.new w t #[a, b, c]).cell j).trans (by simpa using h)
theorem blk_three {w : World} {g : Nat} {t : TypeId} {a b c : Value} (hb : Blk w g t #[a, b, c]) : ∀ (j : Nat) (u : Value), [a, b, c][j]? = some u → w.cell? ((⟨g, 0, none⟩ : Addr).add j) = some u := fun j u h => by
  rw [Addr.add_lit, Nat.zero_add]
  exact (hb.cell j).trans (by simpa using h)
section
variable {W0 W W1 : World} {lim c : Nat} {A : Option Addr} {L : List Nd} {v lo hi r : Int}
attribute [local go_sem ↓] eqR eqgR in
set_option maxRecDepth 100000 in
set_option maxHeartbeats 6400000 in
theorem rmk_new (h : RefA W A c L) (hv : 0 ≤ v ∧ v < 12) {y z : Int} (h1 : hasP L.length lo = true) (h2 : hasP L.length hi = true) (h3 : varP L lo = y) (h4 : ¬ y ≤ v) (h5 : varP L hi = z) (h6 : ¬ z ≤ v) (hne : lo ≠ hi) (hk : ∀ k : Nat, L[k]? ≠ some (v, lo, hi)) (hroom : ¬ lim ≤ L.length) (hfew1 : L.length + 1 ≤ 4000) :
    Calls Tryd.prog 64 #[.agg #[.int .i64 lim, .slice A L.length c], .int .i64 v, .int .i64 lo, .int .i64 hi] W (RetRMk lim (L ++ [(v, lo, hi)]) L.length 0 W) := by
  have hs := str_start W lim c A L h
  have HS := Lib.hid hs
  have HR := Lib.hid hs.ref
  obtain ⟨⟨c0, c1⟩, -⟩ := hs.cells
  have hfew := h.2
  have hcap := h.cap
  clear h hs
  have HKx := Lib.hid hk
  have hroom2 : ¬ (lim : Int) ≤ (L.length : Int) := by omega
  have HF1 := Lib.hid hfew1
  clear hk hfew1
  have g0 : ¬ v < 0 := by omega
  have g1 : ¬ 11 < v := by omega
  have HL := Lib.hid h1
  have HH := Lib.hid h2
  have HVl := Lib.hid h3
  have HVh := Lib.hid h5
  have d1 : (lo == hi) = false := by simpa using hne
  have d2 : decide (lo = hi) = false := decide_eq_false hne
  clear h1 h2 h3 h5 hne
  go_enter Tryd.func64, Tryd.ntmps64
  go_wp2_with (first
    | (go_at_call 32; ((with_reducible refine (rhas_named HL.out HR.out).mono ?_); rintro e w1 ⟨rfl, hb⟩); clear c0 c1; have HS := Lib.hid (HS.out.below hb); have HR := Lib.hid HS.out.ref; obtain ⟨⟨c0, c1⟩, ⟨c2, c3⟩, f2, f3, f4⟩ := HS.out.cells; clear hb)
    | (go_at_call 32; ((with_reducible refine (rhas_named HH.out HR.out).mono ?_); rintro e w1 ⟨rfl, hb⟩); clear c0 c1; have HS := Lib.hid (HS.out.below hb); have HR := Lib.hid HS.out.ref; obtain ⟨⟨c0, c1⟩, ⟨c2, c3⟩, f2, f3, f4⟩ := HS.out.cells; clear hb)
    | (go_at_call 100; ((with_reducible refine (rvar_named HVl.out HR.out).mono ?_); rintro e w1 ⟨rfl, hb⟩); clear c0 c1; have HS := Lib.hid (HS.out.below hb); have HR := Lib.hid HS.out.ref; obtain ⟨⟨c0, c1⟩, ⟨c2, c3⟩, f2, f3, f4⟩ := HS.out.cells; clear hb)
    | (go_at_call 100; ((with_reducible refine (rvar_named HVh.out HR.out).mono ?_); rintro e w1 ⟨rfl, hb⟩); clear c0 c1; have HS := Lib.hid (HS.out.below hb); have HR := Lib.hid HS.out.ref; obtain ⟨⟨c0, c1⟩, ⟨c2, c3⟩, f2, f3, f4⟩ := HS.out.cells; clear hb))
  have HSx := Lib.hid (HS.out.below ((Below.refl w1.heap.size w1).alloc (Nat.le_refl _) (.cells #[.int .i64 v, .int .i64 lo, .int .i64 hi] 105)))
  have HBx := Lib.hid (Blk.new w1 105 #[.int .i64 v, .int .i64 lo, .int .i64 hi])
  obtain ⟨nb, hnb⟩ : ∃ nb, w1.heap.size = nb := ⟨_, rfl⟩
  rw [hnb] at HBx
  rw [hnb]
  clear c0 c1 c2 c3 f2 f3 f4 hnb
  go_loopg [12] L.length (fun gk t12 wr => ∃ i : Nat, i + gk = L.length ∧ t12 = .int .i64 (i : Int) ∧ (∀ j, j < i → L[j]? ≠ some (v, lo, hi)) ∧ StR W lim A c L wr ∧ Blk wr nb 105 #[.int .i64 v, .int .i64 lo, .int .i64 hi])
  case atStart => exact ⟨0, by omega, rfl, fun j hj => absurd hj (by omega), HSx.out, HBx.out⟩
  case round =>
    rename Nat => g0'
    obtain ⟨i, hii, rfl, hFar, hSt, hBn⟩ := hrel
    have HI := Lib.hid hii
    have HFar := Lib.hid hFar
    have HS := Lib.hid hSt
    have HB := Lib.hid hBn
    obtain ⟨⟨c0, c1⟩, ⟨c2, c3⟩, f2, f3, f4⟩ := hSt.cells
    have b0 : wr.cell? ⟨nb, 0, none⟩ = some (.int .i64 v) := hBn.cell 0
    have b1 : wr.cell? ⟨nb, 1, none⟩ = some (.int .i64 lo) := hBn.cell 1
    have b2 : wr.cell? ⟨nb, 2, none⟩ = some (.int .i64 hi) := hBn.cell 2
    clear hii hFar hSt hBn
    by_cases hil : i < L.length
    · obtain ⟨x1, x2, x3, hx⟩ := node_named hil
      obtain ⟨g, hA, hg, k0, k1, k2⟩ := HS.out.ref.node hx
      have hsn := sameN_iff (x1, x2, x3) (v, lo, hi)
      dsimp only at hsn
      have HX := Lib.hid hx
      subst hA
      clear hx
      cases hb : sameN x1 x2 x3 v lo hi
      · have HNe := Lib.hid (show (x1, x2, x3) ≠ (v, lo, hi) from of_decide_eq_false (hsn.symm.trans hb))
        clear hsn
        go_wp2_with fail
        go_quiet (fail)
        go_wp2_with fail
        have hii := HI.out
        go_roundg (g0' - 1)
        case measure => omega
        case rel => exact ⟨i + 1, by omega, by simp, fun j hj => by
                      by_cases e : j = i
                      · rw [e, HX.out]; exact fun h => HNe.out (Option.some.inj h)
                      · exact HFar.out j (by omega), HS.out.below (drewN_below _ _), HB.out.below (drewN_below _ _) HB.out.lt⟩
      · have HEq := Lib.hid (show (x1, x2, x3) = (v, lo, hi) from of_decide_eq_true (hsn.symm.trans hb))
        clear hsn
        exact absurd HX.out (by rw [HEq.out]; exact HKx.out i)
    · have hie : i = L.length := by have := HI.out; omega
      subst hie
      have lt1 := HS.out.box.lt
      have lt2 := HS.out.res.lt
      have lt3 := HB.out.lt
      have hinfo : (Tryd.prog.info? 105).map (fun i => (i.zero, i.size, i.bytes)) = some (some (.agg #[.int .i64 0, .int .i64 0, .int .i64 0]), 3, 24) := by kernel_rfl
      obtain ⟨i0, hi0, hz0, hz1, hz2⟩ := info_parts hinfo
      have HI0 := Lib.hid (And.intro hi0 (And.intro hz0 (And.intro hz1 hz2)))
      clear hinfo hi0 hz0 hz1 hz2
      rcases HS.out.ref.1.2 with ⟨hvn, h0n⟩ | ⟨gA, cap, cur, hvn, _, hgA, _⟩
      · injection hvn with hA1 hA0 hA2
        obtain rfl : L = [] := List.eq_nil_of_length_eq_zero h0n
        subst hA1
        subst hA2
        go_upto_region 15 with fail
        go_cut [83] (fun t83 wx => AddR W lim ([] : List Nd) (v, lo, hi) t83 wx)
        case first =>
          have hnb : W.heap.size ≠ nb := fun e => Blk.ne_ HS.out.box HB.out (by decide) e
          have SK : Hid (∀ w', Below wr.heap.size wr w' → (w'.cell? ⟨nb, 0, none⟩ = some (.int .i64 v) ∧ w'.cell? ⟨nb, 1, none⟩ = some (.int .i64 lo) ∧ w'.cell? ⟨nb, 2, none⟩ = some (.int .i64 hi))) := Lib.hid fun w' hb => ⟨(HB.out.below hb HB.out.lt).cell 0, (HB.out.below hb HB.out.lt).cell 1, (HB.out.below hb HB.out.lt).cell 2⟩
          have SKs : Hid (∀ w' u, Below wr.heap.size wr w' → ((w'.setCell ⟨W.heap.size, 1, none⟩ u).cell? ⟨nb, 0, none⟩ = some (.int .i64 v) ∧ (w'.setCell ⟨W.heap.size, 1, none⟩ u).cell? ⟨nb, 1, none⟩ = some (.int .i64 lo) ∧ (w'.setCell ⟨W.heap.size, 1, none⟩ u).cell? ⟨nb, 2, none⟩ = some (.int .i64 hi))) := Lib.hid fun w' u hb => ⟨((HB.out.below hb HB.out.lt).far (p := ⟨W.heap.size, 1, none⟩) hnb.symm u).cell 0, ((HB.out.below hb HB.out.lt).far (p := ⟨W.heap.size, 1, none⟩) hnb.symm u).cell 1, ((HB.out.below hb HB.out.lt).far (p := ⟨W.heap.size, 1, none⟩) hnb.symm u).cell 2⟩
          have hbd := Lib.hid (Below.refl wr.heap.size wr).drew
          have bA : Hid (Below wr.heap.size wr (wr.alloc (.cells #[] 105)).drew) := Lib.hid ((Below.refl wr.heap.size wr).alloc (Nat.le_refl _) _).drew
          have bC0 : Hid (Below wr.heap.size wr (wr.alloc (.cells #[.int .i64 v, .int .i64 lo, .int .i64 hi] 105)).drew) := Lib.hid ((Below.refl wr.heap.size wr).alloc (Nat.le_refl _) _).drew
          have bB : Hid (Below wr.heap.size wr ((wr.alloc (.cells #[] 105)).alloc (.cells #[.int .i64 v, .int .i64 lo, .int .i64 hi] 105)).drew) := Lib.hid (((Below.refl wr.heap.size wr).alloc (Nat.le_refl _) _).alloc (by simp) _).drew
          have bC : Hid (Below wr.heap.size wr ((wr.alloc (.cells #[.int .i64 v, .int .i64 lo, .int .i64 hi] 105)).alloc (.cells #[] 105)).drew) := Lib.hid (((Below.refl wr.heap.size wr).alloc (Nat.le_refl _) _).alloc (by simp) _).drew
          have o0 := World.ownsRow_lit (base := wr.heap.size) (e := 105) (size := 3) wr #[] 0 (Nat.le_refl _) (by unfold maxLen; omega) rfl
          have o1 := World.ownsRow_lit (base := wr.heap.size) (e := 105) (size := 3) (wr.alloc (.cells #[.int .i64 v, .int .i64 lo, .int .i64 hi] 105)) #[] 0 (by simp) (by unfold maxLen; omega) rfl
          rw [World.size_alloc] at o1
          have OA : Hid (((wr.alloc (.cells #[] 105)).drew).ownsRow wr.heap.size 105 3 (.slice (some ⟨wr.heap.size, 0, none⟩) 0 0) 0 []) := Lib.hid o0.drew
          have OB : Hid ((((wr.alloc (.cells #[] 105)).alloc (.cells #[.int .i64 v, .int .i64 lo, .int .i64 hi] 105)).drew).ownsRow wr.heap.size 105 3 (.slice (some ⟨wr.heap.size, 0, none⟩) 0 0) 0 []) := Lib.hid (o0.alloc _).drew
          have OC : Hid ((((wr.alloc (.cells #[.int .i64 v, .int .i64 lo, .int .i64 hi] 105)).alloc (.cells #[] 105)).drew).ownsRow wr.heap.size 105 3 (.slice (some ⟨wr.heap.size + 1, 0, none⟩) 0 0) 0 []) := Lib.hid o1.drew
          have BXB : Hid (Blk (((wr.alloc (.cells #[] 105)).alloc (.cells #[.int .i64 v, .int .i64 lo, .int .i64 hi] 105)).drew) (wr.heap.size + 1) 105 #[.int .i64 v, .int .i64 lo, .int .i64 hi]) := Lib.hid (two_blks wr _ _ _ _).2
          have BXC : Hid (Blk (((wr.alloc (.cells #[.int .i64 v, .int .i64 lo, .int .i64 hi] 105)).alloc (.cells #[] 105)).drew) wr.heap.size 105 #[.int .i64 v, .int .i64 lo, .int .i64 hi]) := Lib.hid (two_blks wr _ _ _ _).1
          have HM : Hid ((0 + ([] : List Nd).length ≤ maxLen ∧ (0 + ([] : List Nd).length) * 24 ≤ 140737488355328 ∧ ([] : List Nd).length + 1 ≤ maxLen ∧ (([] : List Nd).length + 1) * 24 ≤ 140737488355328)) := Lib.hid (by unfold maxLen; omega)
          clear o0 o1 hnb
          go_region_law (first
            | (refine step_append_at rfl (.tmp 80) (.tmp 82) 44 rfl wr.heap.size 105 i0 (.agg #[.int .i64 0, .int .i64 0, .int .i64 0]) 3 24 Tryd.underlying44 HI0.out.1 HI0.out.2.1 HI0.out.2.2.1 HI0.out.2.2.2 rfl (by decide) (.slice (some ⟨wr.heap.size, 0, none⟩) 0 0) 0 [] (by simp [Act.eval]) OB.out ⟨wr.heap.size + 1, 0, none⟩ 1 1 [.int .i64 v, .int .i64 lo, .int .i64 hi] (by simp [Act.eval]) rfl (blk_three BXB.out) (one_three _ _ _) HM.out.2.2.1 HM.out.2.2.2 bB.out.size ?_; intro v6 w6 ho6 hg6 hl6; have hB6 := Lib.hid (Below.grown bB.out hg6 bB.out.size (own_ge (Nat.le_refl _))); obtain ⟨A6, c6, hv6⟩ := own_form ho6 (by omega); subst hv6; have s0 := (HS.out.below hB6.out).cells.1.2; have s1 := (HS.out.below hB6.out).cells.2.2.2.2; have HO6 := Lib.hid ho6; clear ho6 hg6 hl6)
            | (refine step_append_at rfl (.tmp 80) (.tmp 82) 44 rfl wr.heap.size 105 i0 (.agg #[.int .i64 0, .int .i64 0, .int .i64 0]) 3 24 Tryd.underlying44 HI0.out.1 HI0.out.2.1 HI0.out.2.2.1 HI0.out.2.2.2 rfl (by decide) (.slice (some ⟨wr.heap.size + 1, 0, none⟩) 0 0) 0 [] (by simp [Act.eval]) OC.out ⟨wr.heap.size, 0, none⟩ 1 1 [.int .i64 v, .int .i64 lo, .int .i64 hi] (by simp [Act.eval]) rfl (blk_three BXC.out) (one_three _ _ _) HM.out.2.2.1 HM.out.2.2.2 bC.out.size ?_; intro v6 w6 ho6 hg6 hl6; have hB6 := Lib.hid (Below.grown bC.out hg6 bC.out.size (own_ge (Nat.le_succ _))); obtain ⟨A6, c6, hv6⟩ := own_form ho6 (by omega); subst hv6; have s0 := (HS.out.below hB6.out).cells.1.2; have s1 := (HS.out.below hB6.out).cells.2.2.2.2; have HO6 := Lib.hid ho6; clear ho6 hg6 hl6))
          all_goals
            go_wp2_with fail
            go_meet
            exact addr_of (L := []) HS.out hB6.out HO6.out
        case rest =>
          obtain ⟨A', c', rfl, hbx, hrs, hrow, hlow⟩ := hcut
          have e0 : wc.cell? ⟨W.heap.size, 0, none⟩ = some (.int .i64 lim) := hbx.cell 0
          have e1 : wc.cell? ⟨W.heap.size, 1, none⟩ = some (.slice A' (([] : List Nd).length + 1) c') := hbx.cell 1
          have e2 : wc.cell? ⟨W.heap.size + 1, 0, none⟩ = some (.int .i64 0) := hrs.cell 0
          have e3 : wc.cell? ⟨W.heap.size + 1, 1, none⟩ = some (.slice none 0 0) := hrs.cell 1
          have e4 : wc.frozen? ⟨W.heap.size + 1, 0, none⟩ = false := hrs.frozen 0
          have e5 : wc.frozen? ⟨W.heap.size + 1, 1, none⟩ = false := hrs.frozen 1
          have e6 := hbx.lt
          have e7 := hrs.lt
          have HF := Lib.hid (addr_done (lim := lim) hrs hrow HF1.out hlow)
          have hf1 := HF1.out
          clear hbx hrs hrow hlow c0 c1 c2 c3 f2 f3 f4 b0 b1 b2 lt1 lt2 lt3
          go_wp2_with fail
          go_region
          go_wp2_with fail
          have r0 := HF.out.2.1
          have r1 := HF.out.2.2
          refine bodyPost_ret (v := .tuple #[.agg #[.int .i64 lim, .slice A' (([] : List Nd).length + 1) c'], .int .i64 (([] : List Nd).length : Int), .int .i64 0]) (by have q0 : (wc.setCell ⟨W.heap.size + 1, 0, none⟩ (.int .i64 lim)).cell? ⟨W.heap.size + 1, 0, none⟩ = some (.int .i64 lim) := World.cell?_setCell_same wc _ _ e2; simp only [List.length_nil, Nat.zero_add] at r1; simp [results, Tryd.results64, go_sem, q0, r1]) rfl ?_
          exact ⟨A', c', by rw [List.length_append, List.length_singleton], HF.out.1.1.below (Below.refl _ _).drew, HF.out.1.2.drew⟩
      · injection hvn with hA1 _ hA2
        subst hA1
        subst hA2
        go_upto_region 15 with fail
        go_cut [83] (fun t83 wx => AddR W lim L (v, lo, hi) t83 wx)
        case first =>
          have hnb : W.heap.size ≠ nb := fun e => Blk.ne_ HS.out.box HB.out (by decide) e
          have SK : Hid (∀ w', Below wr.heap.size wr w' → (w'.cell? ⟨nb, 0, none⟩ = some (.int .i64 v) ∧ w'.cell? ⟨nb, 1, none⟩ = some (.int .i64 lo) ∧ w'.cell? ⟨nb, 2, none⟩ = some (.int .i64 hi))) := Lib.hid fun w' hb => ⟨(HB.out.below hb HB.out.lt).cell 0, (HB.out.below hb HB.out.lt).cell 1, (HB.out.below hb HB.out.lt).cell 2⟩
          have SKs : Hid (∀ w' u, Below wr.heap.size wr w' → ((w'.setCell ⟨W.heap.size, 1, none⟩ u).cell? ⟨nb, 0, none⟩ = some (.int .i64 v) ∧ (w'.setCell ⟨W.heap.size, 1, none⟩ u).cell? ⟨nb, 1, none⟩ = some (.int .i64 lo) ∧ (w'.setCell ⟨W.heap.size, 1, none⟩ u).cell? ⟨nb, 2, none⟩ = some (.int .i64 hi))) := Lib.hid fun w' u hb => ⟨((HB.out.below hb HB.out.lt).far (p := ⟨W.heap.size, 1, none⟩) hnb.symm u).cell 0, ((HB.out.below hb HB.out.lt).far (p := ⟨W.heap.size, 1, none⟩) hnb.symm u).cell 1, ((HB.out.below hb HB.out.lt).far (p := ⟨W.heap.size, 1, none⟩) hnb.symm u).cell 2⟩
          have hbd := Lib.hid (Below.refl wr.heap.size wr).drew
          have bA : Hid (Below wr.heap.size wr (wr.alloc (.cells #[] 105)).drew) := Lib.hid ((Below.refl wr.heap.size wr).alloc (Nat.le_refl _) _).drew
          have bC0 : Hid (Below wr.heap.size wr (wr.alloc (.cells #[.int .i64 v, .int .i64 lo, .int .i64 hi] 105)).drew) := Lib.hid ((Below.refl wr.heap.size wr).alloc (Nat.le_refl _) _).drew
          have bB : Hid (Below wr.heap.size wr ((wr.alloc (.cells #[] 105)).alloc (.cells #[.int .i64 v, .int .i64 lo, .int .i64 hi] 105)).drew) := Lib.hid (((Below.refl wr.heap.size wr).alloc (Nat.le_refl _) _).alloc (by simp) _).drew
          have bC : Hid (Below wr.heap.size wr ((wr.alloc (.cells #[.int .i64 v, .int .i64 lo, .int .i64 hi] 105)).alloc (.cells #[] 105)).drew) := Lib.hid (((Below.refl wr.heap.size wr).alloc (Nat.le_refl _) _).alloc (by simp) _).drew
          have o0 := World.ownsRow_lit (base := wr.heap.size) (e := 105) (size := 3) wr #[] 0 (Nat.le_refl _) (by unfold maxLen; omega) rfl
          have o1 := World.ownsRow_lit (base := wr.heap.size) (e := 105) (size := 3) (wr.alloc (.cells #[.int .i64 v, .int .i64 lo, .int .i64 hi] 105)) #[] 0 (by simp) (by unfold maxLen; omega) rfl
          rw [World.size_alloc] at o1
          have OA : Hid (((wr.alloc (.cells #[] 105)).drew).ownsRow wr.heap.size 105 3 (.slice (some ⟨wr.heap.size, 0, none⟩) 0 0) 0 []) := Lib.hid o0.drew
          have OB : Hid ((((wr.alloc (.cells #[] 105)).alloc (.cells #[.int .i64 v, .int .i64 lo, .int .i64 hi] 105)).drew).ownsRow wr.heap.size 105 3 (.slice (some ⟨wr.heap.size, 0, none⟩) 0 0) 0 []) := Lib.hid (o0.alloc _).drew
          have OC : Hid ((((wr.alloc (.cells #[.int .i64 v, .int .i64 lo, .int .i64 hi] 105)).alloc (.cells #[] 105)).drew).ownsRow wr.heap.size 105 3 (.slice (some ⟨wr.heap.size + 1, 0, none⟩) 0 0) 0 []) := Lib.hid o1.drew
          have BXB : Hid (Blk (((wr.alloc (.cells #[] 105)).alloc (.cells #[.int .i64 v, .int .i64 lo, .int .i64 hi] 105)).drew) (wr.heap.size + 1) 105 #[.int .i64 v, .int .i64 lo, .int .i64 hi]) := Lib.hid (two_blks wr _ _ _ _).2
          have BXC : Hid (Blk (((wr.alloc (.cells #[.int .i64 v, .int .i64 lo, .int .i64 hi] 105)).alloc (.cells #[] 105)).drew) wr.heap.size 105 #[.int .i64 v, .int .i64 lo, .int .i64 hi]) := Lib.hid (two_blks wr _ _ _ _).1
          have HM : Hid ((0 + L.length ≤ maxLen ∧ (0 + L.length) * 24 ≤ 140737488355328 ∧ L.length + 1 ≤ maxLen ∧ (L.length + 1) * 24 ≤ 140737488355328)) := Lib.hid (by unfold maxLen; omega)
          clear o0 o1 hnb
          have AN : Hid (∀ w', Below wr.heap.size wr w' → ∀ j u, (cellsL L)[j]? = some u → w'.cell? ((⟨gA, 0, none⟩ : Addr).add j) = some u) := Lib.hid fun w' hb j u hu => by
            rw [Addr.add_lit, Nat.zero_add, (HS.out.below hb).ref.1.cellAt j (by have := (List.getElem?_eq_some_iff.1 hu).1; rwa [cellsL_len] at this)]
            exact hu
          go_region_law
            (first
              | (refine step_append_at rfl (.tmp 77) (.tmp 79) 44 rfl wr.heap.size 105 i0 (.agg #[.int .i64 0, .int .i64 0, .int .i64 0]) 3 24 Tryd.underlying44 HI0.out.1 HI0.out.2.1 HI0.out.2.2.1 HI0.out.2.2.2 rfl (by decide) (.slice (some ⟨wr.heap.size, 0, none⟩) 0 0) 0 [] (by simp [Act.eval]) OA.out ⟨gA, 0, none⟩ L.length c (cellsL L) (by simp [Act.eval]) (cellsL_len L) (AN.out _ bA.out) (cellsL_one L) HM.out.1 HM.out.2.1 bA.out.size ?_; intro v5 w5 ho5 hg5 hl5; have hB5 := Lib.hid (Below.grown bA.out hg5 bA.out.size (own_ge (Nat.le_refl _))); obtain ⟨A5, c5, hv5⟩ := form_of ho5; subst hv5; have HO5 := Lib.hid (own_lists ho5); skip; have q0 : w5.cell? ⟨nb, 0, none⟩ = some (.int .i64 v) := (HB.out.below hB5.out HB.out.lt).cell 0; have q1 : w5.cell? ⟨nb, 1, none⟩ = some (.int .i64 lo) := (HB.out.below hB5.out HB.out.lt).cell 1; have q2 : w5.cell? ⟨nb, 2, none⟩ = some (.int .i64 hi) := (HB.out.below hB5.out HB.out.lt).cell 2; have lt5 := Nat.lt_of_lt_of_le lt3 hB5.out.size; clear ho5 hg5 hl5)
              | (refine step_append_at rfl (.tmp 77) (.tmp 79) 44 rfl wr.heap.size 105 i0 (.agg #[.int .i64 0, .int .i64 0, .int .i64 0]) 3 24 Tryd.underlying44 HI0.out.1 HI0.out.2.1 HI0.out.2.2.1 HI0.out.2.2.2 rfl (by decide) (.slice (some ⟨wr.heap.size, 0, none⟩) 0 0) 0 [] (by simp [Act.eval]) OB.out ⟨gA, 0, none⟩ L.length c (cellsL L) (by simp [Act.eval]) (cellsL_len L) (AN.out _ bB.out) (cellsL_one L) HM.out.1 HM.out.2.1 bB.out.size ?_; intro v5 w5 ho5 hg5 hl5; have hB5 := Lib.hid (Below.grown bB.out hg5 bB.out.size (own_ge (Nat.le_refl _))); obtain ⟨A5, c5, hv5⟩ := form_of ho5; subst hv5; have HO5 := Lib.hid (own_lists ho5); have HXb := Lib.hid (Blk.grown (BXB.out) hg5 (ne_own (Nat.succ_ne_self _))); have q0 : w5.cell? ⟨nb, 0, none⟩ = some (.int .i64 v) := (HB.out.below hB5.out HB.out.lt).cell 0; have q1 : w5.cell? ⟨nb, 1, none⟩ = some (.int .i64 lo) := (HB.out.below hB5.out HB.out.lt).cell 1; have q2 : w5.cell? ⟨nb, 2, none⟩ = some (.int .i64 hi) := (HB.out.below hB5.out HB.out.lt).cell 2; have lt5 := Nat.lt_of_lt_of_le lt3 hB5.out.size; clear ho5 hg5 hl5)
              | (refine step_append_at rfl (.tmp 77) (.tmp 79) 44 rfl wr.heap.size 105 i0 (.agg #[.int .i64 0, .int .i64 0, .int .i64 0]) 3 24 Tryd.underlying44 HI0.out.1 HI0.out.2.1 HI0.out.2.2.1 HI0.out.2.2.2 rfl (by decide) (.slice (some ⟨wr.heap.size + 1, 0, none⟩) 0 0) 0 [] (by simp [Act.eval]) OC.out ⟨gA, 0, none⟩ L.length c (cellsL L) (by simp [Act.eval]) (cellsL_len L) (AN.out _ bC.out) (cellsL_one L) HM.out.1 HM.out.2.1 bC.out.size ?_; intro v5 w5 ho5 hg5 hl5; have hB5 := Lib.hid (Below.grown bC.out hg5 bC.out.size (own_ge (Nat.le_succ _))); obtain ⟨A5, c5, hv5⟩ := form_of ho5; subst hv5; have HO5 := Lib.hid (own_lists ho5); have HXb := Lib.hid (Blk.grown (BXC.out) hg5 (ne_own (Nat.succ_ne_self _).symm)); have q0 : w5.cell? ⟨nb, 0, none⟩ = some (.int .i64 v) := (HB.out.below hB5.out HB.out.lt).cell 0; have q1 : w5.cell? ⟨nb, 1, none⟩ = some (.int .i64 lo) := (HB.out.below hB5.out HB.out.lt).cell 1; have q2 : w5.cell? ⟨nb, 2, none⟩ = some (.int .i64 hi) := (HB.out.below hB5.out HB.out.lt).cell 2; have lt5 := Nat.lt_of_lt_of_le lt3 hB5.out.size; clear ho5 hg5 hl5)
              | (refine step_append_at rfl (.tmp 80) (.tmp 82) 44 rfl wr.heap.size 105 i0 (.agg #[.int .i64 0, .int .i64 0, .int .i64 0]) 3 24 Tryd.underlying44 HI0.out.1 HI0.out.2.1 HI0.out.2.2.1 HI0.out.2.2.2 rfl (by decide) (.slice A5 L.length c5) L.length (cellsL L) (by simp [Act.eval]) (HO5.out.alloc _) ⟨w5.heap.size, 0, none⟩ 1 1 [.int .i64 v, .int .i64 lo, .int .i64 hi] (by simp [Act.eval]) rfl (three_atR _ _ _ _ _) (one_three _ _ _) HM.out.2.2.1 HM.out.2.2.2 (Below.size (hB5.out.alloc hB5.out.size _)) ?_; intro v6 w6 ho6 hg6 hl6; have hB6 := Lib.hid (Below.grown (hB5.out.alloc hB5.out.size _) hg6 (Below.size (hB5.out.alloc hB5.out.size _)) (fun k hk => (HO5.out.lt k hk).1)); obtain ⟨A6, c6, hv6⟩ := own_form ho6 (by omega); subst hv6; have s0 := (HS.out.below hB6.out).cells.1.2; have s1 := (HS.out.below hB6.out).cells.2.2.2.2; have HO6 := Lib.hid ho6; clear ho6 hg6 hl6)
              | (refine step_append_at rfl (.tmp 80) (.tmp 82) 44 rfl wr.heap.size 105 i0 (.agg #[.int .i64 0, .int .i64 0, .int .i64 0]) 3 24 Tryd.underlying44 HI0.out.1 HI0.out.2.1 HI0.out.2.2.1 HI0.out.2.2.2 rfl (by decide) (.slice A5 L.length c5) L.length (cellsL L) (by simp [Act.eval]) HO5.out ⟨wr.heap.size + 1, 0, none⟩ 1 1 [.int .i64 v, .int .i64 lo, .int .i64 hi] (by simp [Act.eval]) rfl (blk_three HXb.out) (one_three _ _ _) HM.out.2.2.1 HM.out.2.2.2 (Below.size hB5.out) ?_; intro v6 w6 ho6 hg6 hl6; have hB6 := Lib.hid (Below.grown hB5.out hg6 (Below.size hB5.out) (fun k hk => (HO5.out.lt k hk).1)); obtain ⟨A6, c6, hv6⟩ := own_form ho6 (by omega); subst hv6; have s0 := (HS.out.below hB6.out).cells.1.2; have s1 := (HS.out.below hB6.out).cells.2.2.2.2; have HO6 := Lib.hid ho6; clear ho6 hg6 hl6)
              | (refine step_append_at rfl (.tmp 80) (.tmp 82) 44 rfl wr.heap.size 105 i0 (.agg #[.int .i64 0, .int .i64 0, .int .i64 0]) 3 24 Tryd.underlying44 HI0.out.1 HI0.out.2.1 HI0.out.2.2.1 HI0.out.2.2.2 rfl (by decide) (.slice A5 L.length c5) L.length (cellsL L) (by simp [Act.eval]) HO5.out ⟨wr.heap.size, 0, none⟩ 1 1 [.int .i64 v, .int .i64 lo, .int .i64 hi] (by simp [Act.eval]) rfl (blk_three HXb.out) (one_three _ _ _) HM.out.2.2.1 HM.out.2.2.2 (Below.size hB5.out) ?_; intro v6 w6 ho6 hg6 hl6; have hB6 := Lib.hid (Below.grown hB5.out hg6 (Below.size hB5.out) (fun k hk => (HO5.out.lt k hk).1)); obtain ⟨A6, c6, hv6⟩ := own_form ho6 (by omega); subst hv6; have s0 := (HS.out.below hB6.out).cells.1.2; have s1 := (HS.out.below hB6.out).cells.2.2.2.2; have HO6 := Lib.hid ho6; clear ho6 hg6 hl6))
          all_goals
            go_wp2_with fail
            go_meet
            exact addr_of HS.out hB6.out HO6.out
        case rest =>
          obtain ⟨A', c', rfl, hbx, hrs, hrow, hlow⟩ := hcut
          have e0 : wc.cell? ⟨W.heap.size, 0, none⟩ = some (.int .i64 lim) := hbx.cell 0
          have e1 : wc.cell? ⟨W.heap.size, 1, none⟩ = some (.slice A' (L.length + 1) c') := hbx.cell 1
          have e2 : wc.cell? ⟨W.heap.size + 1, 0, none⟩ = some (.int .i64 0) := hrs.cell 0
          have e3 : wc.cell? ⟨W.heap.size + 1, 1, none⟩ = some (.slice none 0 0) := hrs.cell 1
          have e4 : wc.frozen? ⟨W.heap.size + 1, 0, none⟩ = false := hrs.frozen 0
          have e5 : wc.frozen? ⟨W.heap.size + 1, 1, none⟩ = false := hrs.frozen 1
          have e6 := hbx.lt
          have e7 := hrs.lt
          have HF := Lib.hid (addr_done (lim := lim) hrs hrow HF1.out hlow)
          have hf1 := HF1.out
          clear hbx hrs hrow hlow c0 c1 c2 c3 f2 f3 f4 b0 b1 b2 lt1 lt2 lt3
          go_wp2_with fail
          go_region
          go_wp2_with fail
          have r0 := HF.out.2.1
          have r1 := HF.out.2.2
          refine bodyPost_ret (v := .tuple #[.agg #[.int .i64 lim, .slice A' (L.length + 1) c'], .int .i64 (L.length : Int), .int .i64 0]) (by simp [results, Tryd.results64, go_sem, r0, r1]) rfl ?_
          exact ⟨A', c', by rw [List.length_append, List.length_singleton], HF.out.1.1.below (Below.refl _ _).drew, HF.out.1.2.drew⟩
end
end Go.Proofs.YtlddelnbjihhgaaDoor
