/- The contract of the document's Mk: where the node is searched for. -/
import Derived.Test.YtlddelnbjihhgaaDoorNRefMk
import Derived.Deep.RegionLaw
namespace Go.Proofs.YtlddelnbjihhgaaDoor
open Go.RowKit
attribute [local go_sem ↓] Go.wp_at_zero Go.wp_at_succ

theorem guardR : Tryd.prog.eqGuardType Tryd.prog.depth 105 = false := by kernel_rfl
theorem heldR : Tryd.prog.stoodInHeld 105 = false := by kernel_rfl
theorem equalR (a b c d e f : Int) (w : World) : (Op.equalIn 10000 105 (.agg #[.int .i64 a, .int .i64 b, .int .i64 c]) (.agg #[.int .i64 d, .int .i64 e, .int .i64 f])).run Tryd.prog w = .ok (sameN a b c d e f) w := by
  rw [run_equalIn_struct w 9999 105 _ _ (by unfold Program.fieldsOf; rw [Tryd.underlying105]) heldR]
  by_cases h : a = d <;> by_cases h' : b = e <;> by_cases h'' : c = f <;> simp [sameN, Program.fieldsOf, Tryd.underlying105, Op.eqFields, part, go_sem, h, h', h'', Tryd.underlying3]
theorem eqR (a b c d e f : Int) (w : World) : (binOp .eql 105 (.agg #[.int .i64 a, .int .i64 b, .int .i64 c]) (.agg #[.int .i64 d, .int .i64 e, .int .i64 f])).run Tryd.prog w = .ok (.bool (sameN a b c d e f)) w := by
  rw [run_eql_struct, equalR]; rfl
theorem neR (a b c d e f : Int) (w : World) : (binOp .neq 105 (.agg #[.int .i64 a, .int .i64 b, .int .i64 c]) (.agg #[.int .i64 d, .int .i64 e, .int .i64 f])).run Tryd.prog w = .ok (.bool (!sameN a b c d e f)) w := by
  rw [run_neq_struct, equalR]; rfl
theorem eqgR (op : BinOp) (x y : Operand) (xs ys : Array Value) (w : World) : (eqGuard op 105 x y (.agg xs) (.agg ys)).run Tryd.prog w = .ok () w := run_eqGuard_agg w op 105 x y xs ys guardR
section
variable {W0 W W1 : World} {lim c : Nat} {A : Option Addr} {L : List Nd} {v lo hi r : Int}
attribute [local go_sem ↓] eqR eqgR in
set_option maxRecDepth 100000 in
set_option maxHeartbeats 3200000 in
theorem rmk_old (h : RefA W A c L) (hv : 0 ≤ v ∧ v < 12) {y z : Int} (h1 : hasP L.length lo = true) (h2 : hasP L.length hi = true) (h3 : varP L lo = y) (h4 : ¬ y ≤ v) (h5 : varP L hi = z) (h6 : ¬ z ≤ v) (hne : lo ≠ hi) {k : Nat} (hk : L[k]? = some (v, lo, hi)) (hu : Uniq L) :
    Calls Tryd.prog 64 #[.agg #[.int .i64 lim, .slice A L.length c], .int .i64 v, .int .i64 lo, .int .i64 hi] W (RetRMk lim L k 0 W) := by
  have hs := str_start W lim c A L h
  have HS := Lib.hid hs
  have HR := Lib.hid hs.ref
  obtain ⟨⟨c0, c1⟩, -⟩ := hs.cells
  have hfew := h.2
  have hcap := h.cap
  clear h hs
  have HKx := Lib.hid hk
  have HU := Lib.hid hu
  clear hk hu
  have g0 : ¬ v < 0 := by omega
  have g1 : ¬ 11 < v := by omega
  have HL := Lib.hid h1
  have HH := Lib.hid h2
  have HVl := Lib.hid h3
  have HVh := Lib.hid h5
  have d1 : (lo == hi) = false := by simpa using hne
  have d2 : decide (lo = hi) = false := decide_eq_false hne
  clear h1 h2 h3 h5 hne
  go_enter Tryd.func64, Tryd.ntmps64
  go_wp2_with (first
    | (go_at_call 32; ((with_reducible refine (rhas_named HL.out HR.out).mono ?_); rintro e w1 ⟨rfl, hb⟩); clear c0 c1; have HS := Lib.hid (HS.out.below hb); have HR := Lib.hid HS.out.ref; obtain ⟨⟨c0, c1⟩, ⟨c2, c3⟩, f2, f3, f4⟩ := HS.out.cells; clear hb)
    | (go_at_call 32; ((with_reducible refine (rhas_named HH.out HR.out).mono ?_); rintro e w1 ⟨rfl, hb⟩); clear c0 c1; have HS := Lib.hid (HS.out.below hb); have HR := Lib.hid HS.out.ref; obtain ⟨⟨c0, c1⟩, ⟨c2, c3⟩, f2, f3, f4⟩ := HS.out.cells; clear hb)
    | (go_at_call 100; ((with_reducible refine (rvar_named HVl.out HR.out).mono ?_); rintro e w1 ⟨rfl, hb⟩); clear c0 c1; have HS := Lib.hid (HS.out.below hb); have HR := Lib.hid HS.out.ref; obtain ⟨⟨c0, c1⟩, ⟨c2, c3⟩, f2, f3, f4⟩ := HS.out.cells; clear hb)
    | (go_at_call 100; ((with_reducible refine (rvar_named HVh.out HR.out).mono ?_); rintro e w1 ⟨rfl, hb⟩); clear c0 c1; have HS := Lib.hid (HS.out.below hb); have HR := Lib.hid HS.out.ref; obtain ⟨⟨c0, c1⟩, ⟨c2, c3⟩, f2, f3, f4⟩ := HS.out.cells; clear hb))
  have HSx := Lib.hid (HS.out.below ((Below.refl w1.heap.size w1).alloc (Nat.le_refl _) (.cells #[.int .i64 v, .int .i64 lo, .int .i64 hi] 105)))
  have HBx := Lib.hid (Blk.new w1 105 #[.int .i64 v, .int .i64 lo, .int .i64 hi])
  obtain ⟨nb, hnb⟩ : ∃ nb, w1.heap.size = nb := ⟨_, rfl⟩
  rw [hnb] at HBx
  rw [hnb]
  clear c0 c1 c2 c3 f2 f3 f4 hnb
  go_loopg [12] L.length (fun gk t12 wr => ∃ i : Nat, i + gk = L.length ∧ t12 = .int .i64 (i : Int) ∧ (∀ j, j < i → L[j]? ≠ some (v, lo, hi)) ∧ StR W lim A c L wr ∧ Blk wr nb 105 #[.int .i64 v, .int .i64 lo, .int .i64 hi])
  case atStart => exact ⟨0, by omega, rfl, fun j hj => absurd hj (by omega), HSx.out, HBx.out⟩
  case round =>
    rename Nat => g0'
    obtain ⟨i, hii, rfl, hFar, hSt, hBn⟩ := hrel
    have HI := Lib.hid hii
    have HFar := Lib.hid hFar
    have HS := Lib.hid hSt
    have HB := Lib.hid hBn
    obtain ⟨⟨c0, c1⟩, ⟨c2, c3⟩, f2, f3, f4⟩ := hSt.cells
    have b0 : wr.cell? ⟨nb, 0, none⟩ = some (.int .i64 v) := hBn.cell 0
    have b1 : wr.cell? ⟨nb, 1, none⟩ = some (.int .i64 lo) := hBn.cell 1
    have b2 : wr.cell? ⟨nb, 2, none⟩ = some (.int .i64 hi) := hBn.cell 2
    clear hii hFar hSt hBn
    by_cases hil : i < L.length
    · obtain ⟨x1, x2, x3, hx⟩ := node_named hil
      obtain ⟨g, hA, hg, k0, k1, k2⟩ := HS.out.ref.node hx
      have hsn := sameN_iff (x1, x2, x3) (v, lo, hi)
      dsimp only at hsn
      have HX := Lib.hid hx
      subst hA
      clear hx
      cases hb : sameN x1 x2 x3 v lo hi
      · have HNe := Lib.hid (show (x1, x2, x3) ≠ (v, lo, hi) from of_decide_eq_false (hsn.symm.trans hb))
        clear hsn
        go_wp2_with fail
        go_quiet (fail)
        go_wp2_with fail
        have hii := HI.out
        go_roundg (g0' - 1)
        case measure => omega
        case rel => exact ⟨i + 1, by omega, by simp, fun j hj => by
                      by_cases e : j = i
                      · rw [e, HX.out]; exact fun h => HNe.out (Option.some.inj h)
                      · exact HFar.out j (by omega), HS.out.below (drewN_below _ _), HB.out.below (drewN_below _ _) HB.out.lt⟩
      · have HEq := Lib.hid (show (x1, x2, x3) = (v, lo, hi) from of_decide_eq_true (hsn.symm.trans hb))
        clear hsn
        obtain rfl : i = k := HU.out i k _ HX.out (by rw [HEq.out]; exact HKx.out)
        go_wp2_with fail
        go_quiet (fail)
        go_wp2_with fail
        have HS := Lib.hid (HS.out.below (drewN_below wr nq))
        have hres := (HS.out.res.set_ 0 (.int .i64 lim)).set_ 1 (.slice (some ⟨g, 0, none⟩) L.length c)
        have r0 := hres.cell 0
        have r1 := hres.cell 1
        simp only [List.setIfInBounds_toArray, List.set_cons_zero, List.set_cons_succ, List.getElem?_toArray, List.getElem?_cons_zero, List.getElem?_cons_succ] at r0 r1
        refine bodyPost_ret (v := .tuple #[.agg #[.int .i64 lim, .slice (some ⟨g, 0, none⟩) L.length c], .int .i64 (i : Int), .int .i64 0]) (by simp [results, Tryd.results64, go_sem, r0, r1]) rfl ?_
        obtain ⟨h1, h2⟩ := HS.out.stored (.int .i64 lim) (.slice (some ⟨g, 0, none⟩) L.length c)
        exact ⟨some ⟨g, 0, none⟩, c, rfl, h1, h2⟩
    · have hie : i = L.length := by have := HI.out; omega
      subst hie
      have hkl := get_len HKx.out
      exact absurd HKx.out (HFar.out k (by omega))
attribute [local go_sem ↓] eqR eqgR in
set_option maxRecDepth 100000 in
set_option maxHeartbeats 3200000 in
theorem rmk_full (h : RefA W A c L) (hv : 0 ≤ v ∧ v < 12) {y z : Int} (h1 : hasP L.length lo = true) (h2 : hasP L.length hi = true) (h3 : varP L lo = y) (h4 : ¬ y ≤ v) (h5 : varP L hi = z) (h6 : ¬ z ≤ v) (hne : lo ≠ hi) (hk : ∀ k : Nat, L[k]? ≠ some (v, lo, hi)) (hfull : lim ≤ L.length) :
    Calls Tryd.prog 64 #[.agg #[.int .i64 lim, .slice A L.length c], .int .i64 v, .int .i64 lo, .int .i64 hi] W (RetRMk lim L 0 50 W) := by
  have hs := str_start W lim c A L h
  have HS := Lib.hid hs
  have HR := Lib.hid hs.ref
  obtain ⟨⟨c0, c1⟩, -⟩ := hs.cells
  have hfew := h.2
  have hcap := h.cap
  clear h hs
  have HKx := Lib.hid hk
  have hfull2 : (lim : Int) ≤ (L.length : Int) := by omega
  clear hk
  have g0 : ¬ v < 0 := by omega
  have g1 : ¬ 11 < v := by omega
  have HL := Lib.hid h1
  have HH := Lib.hid h2
  have HVl := Lib.hid h3
  have HVh := Lib.hid h5
  have d1 : (lo == hi) = false := by simpa using hne
  have d2 : decide (lo = hi) = false := decide_eq_false hne
  clear h1 h2 h3 h5 hne
  go_enter Tryd.func64, Tryd.ntmps64
  go_wp2_with (first
    | (go_at_call 32; ((with_reducible refine (rhas_named HL.out HR.out).mono ?_); rintro e w1 ⟨rfl, hb⟩); clear c0 c1; have HS := Lib.hid (HS.out.below hb); have HR := Lib.hid HS.out.ref; obtain ⟨⟨c0, c1⟩, ⟨c2, c3⟩, f2, f3, f4⟩ := HS.out.cells; clear hb)
    | (go_at_call 32; ((with_reducible refine (rhas_named HH.out HR.out).mono ?_); rintro e w1 ⟨rfl, hb⟩); clear c0 c1; have HS := Lib.hid (HS.out.below hb); have HR := Lib.hid HS.out.ref; obtain ⟨⟨c0, c1⟩, ⟨c2, c3⟩, f2, f3, f4⟩ := HS.out.cells; clear hb)
    | (go_at_call 100; ((with_reducible refine (rvar_named HVl.out HR.out).mono ?_); rintro e w1 ⟨rfl, hb⟩); clear c0 c1; have HS := Lib.hid (HS.out.below hb); have HR := Lib.hid HS.out.ref; obtain ⟨⟨c0, c1⟩, ⟨c2, c3⟩, f2, f3, f4⟩ := HS.out.cells; clear hb)
    | (go_at_call 100; ((with_reducible refine (rvar_named HVh.out HR.out).mono ?_); rintro e w1 ⟨rfl, hb⟩); clear c0 c1; have HS := Lib.hid (HS.out.below hb); have HR := Lib.hid HS.out.ref; obtain ⟨⟨c0, c1⟩, ⟨c2, c3⟩, f2, f3, f4⟩ := HS.out.cells; clear hb))
  have HSx := Lib.hid (HS.out.below ((Below.refl w1.heap.size w1).alloc (Nat.le_refl _) (.cells #[.int .i64 v, .int .i64 lo, .int .i64 hi] 105)))
  have HBx := Lib.hid (Blk.new w1 105 #[.int .i64 v, .int .i64 lo, .int .i64 hi])
  obtain ⟨nb, hnb⟩ : ∃ nb, w1.heap.size = nb := ⟨_, rfl⟩
  rw [hnb] at HBx
  rw [hnb]
  clear c0 c1 c2 c3 f2 f3 f4 hnb
  go_loopg [12] L.length (fun gk t12 wr => ∃ i : Nat, i + gk = L.length ∧ t12 = .int .i64 (i : Int) ∧ (∀ j, j < i → L[j]? ≠ some (v, lo, hi)) ∧ StR W lim A c L wr ∧ Blk wr nb 105 #[.int .i64 v, .int .i64 lo, .int .i64 hi])
  case atStart => exact ⟨0, by omega, rfl, fun j hj => absurd hj (by omega), HSx.out, HBx.out⟩
  case round =>
    rename Nat => g0'
    obtain ⟨i, hii, rfl, hFar, hSt, hBn⟩ := hrel
    have HI := Lib.hid hii
    have HFar := Lib.hid hFar
    have HS := Lib.hid hSt
    have HB := Lib.hid hBn
    obtain ⟨⟨c0, c1⟩, ⟨c2, c3⟩, f2, f3, f4⟩ := hSt.cells
    have b0 : wr.cell? ⟨nb, 0, none⟩ = some (.int .i64 v) := hBn.cell 0
    have b1 : wr.cell? ⟨nb, 1, none⟩ = some (.int .i64 lo) := hBn.cell 1
    have b2 : wr.cell? ⟨nb, 2, none⟩ = some (.int .i64 hi) := hBn.cell 2
    clear hii hFar hSt hBn
    by_cases hil : i < L.length
    · obtain ⟨x1, x2, x3, hx⟩ := node_named hil
      obtain ⟨g, hA, hg, k0, k1, k2⟩ := HS.out.ref.node hx
      have hsn := sameN_iff (x1, x2, x3) (v, lo, hi)
      dsimp only at hsn
      have HX := Lib.hid hx
      subst hA
      clear hx
      cases hb : sameN x1 x2 x3 v lo hi
      · have HNe := Lib.hid (show (x1, x2, x3) ≠ (v, lo, hi) from of_decide_eq_false (hsn.symm.trans hb))
        clear hsn
        go_wp2_with fail
        go_quiet (fail)
        go_wp2_with fail
        have hii := HI.out
        go_roundg (g0' - 1)
        case measure => omega
        case rel => exact ⟨i + 1, by omega, by simp, fun j hj => by
                      by_cases e : j = i
                      · rw [e, HX.out]; exact fun h => HNe.out (Option.some.inj h)
                      · exact HFar.out j (by omega), HS.out.below (drewN_below _ _), HB.out.below (drewN_below _ _) HB.out.lt⟩
      · have HEq := Lib.hid (show (x1, x2, x3) = (v, lo, hi) from of_decide_eq_true (hsn.symm.trans hb))
        clear hsn
        exact absurd HX.out (by rw [HEq.out]; exact HKx.out i)
    · have hie : i = L.length := by have := HI.out; omega
      subst hie
      go_wp2_with fail
      have hres := (HS.out.res.set_ 0 (.int .i64 lim)).set_ 1 (.slice A L.length c)
      have r0 := hres.cell 0
      have r1 := hres.cell 1
      simp only [List.setIfInBounds_toArray, List.set_cons_zero, List.set_cons_succ, List.getElem?_toArray, List.getElem?_cons_zero, List.getElem?_cons_succ] at r0 r1
      refine bodyPost_ret (v := .tuple #[.agg #[.int .i64 lim, .slice A L.length c], .int .i64 0, .int .i64 50]) (by simp [results, Tryd.results64, go_sem, r0, r1]) rfl ?_
      obtain ⟨h1, h2⟩ := HS.out.stored (.int .i64 lim) (.slice A L.length c)
      exact ⟨A, c, rfl, h1, h2⟩
end
end Go.Proofs.YtlddelnbjihhgaaDoor
