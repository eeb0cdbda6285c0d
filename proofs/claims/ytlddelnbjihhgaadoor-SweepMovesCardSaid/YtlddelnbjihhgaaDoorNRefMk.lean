/- The contract of the document's Mk: the arms in which no node is added. -/
import Derived.Test.YtlddelnbjihhgaaDoorNRef
namespace Go.Proofs.YtlddelnbjihhgaaDoor
open Go.RowKit
attribute [local go_sem ↓] Go.wp_at_zero Go.wp_at_succ

def RetRMk (lim : Nat) (L' : List Nd) (r c : Int) (w : World) (e : Ending) (w' : World) : Prop :=
  ∃ A' c', e = .returned (.tuple #[.agg #[.int .i64 lim, .slice A' L'.length c'], .int .i64 r, .int .i64 c]) ∧ RefA w' A' c' L' ∧ Below w.heap.size w w'
/-- Within Mk: the arena's box, and the result's cell. -/
structure StR (W0 : World) (lim : Nat) (A : Option Addr) (c : Nat) (L : List Nd) (W : World) : Prop where
  box : Blk W W0.heap.size 46 #[.int .i64 lim, .slice A L.length c]
  res : Blk W (W0.heap.size + 1) 46 #[.int .i64 0, .slice none 0 0]
  ref : RefA W A c L
  low : Below W0.heap.size W0 W
section
variable {W0 W W1 : World} {lim c : Nat} {A : Option Addr} {L : List Nd} {v lo hi r : Int}
theorem StR.below (h : StR W0 lim A c L W) (hb : Below W.heap.size W W1) : StR W0 lim A c L W1 := ⟨h.box.below hb h.box.lt, h.res.below hb h.res.lt, h.ref.below hb, h.low.trans (hb.mono h.low.size)⟩
theorem StR.cells (h : StR W0 lim A c L W) : (W.cell? ⟨W0.heap.size, 0, none⟩ = some (.int .i64 lim) ∧ W.cell? ⟨W0.heap.size, 1, none⟩ = some (.slice A L.length c)) ∧ (W.cell? ⟨W0.heap.size + 1, 0, none⟩ = some (.int .i64 0) ∧ W.cell? ⟨W0.heap.size + 1, 1, none⟩ = some (.slice none 0 0)) ∧ W.frozen? ⟨W0.heap.size + 1, 0, none⟩ = false ∧ W.frozen? ⟨W0.heap.size + 1, 1, none⟩ = false ∧ W.frozen? ⟨W0.heap.size, 1, none⟩ = false :=
  ⟨⟨h.box.cell 0, h.box.cell 1⟩, ⟨h.res.cell 0, h.res.cell 1⟩, h.res.frozen 0, h.res.frozen 1, h.box.frozen 1⟩
theorem str_start (W0 : World) (lim c : Nat) (A : Option Addr) (L : List Nd) (h : RefA W0 A c L) : StR W0 lim A c L ((W0.alloc (.cells #[.int .i64 lim, .slice A L.length c] 46)).alloc (.cells #[.int .i64 0, .slice none 0 0] 46)) := by
  have hb1 := (Below.refl W0.heap.size W0).alloc (Nat.le_refl _) (.cells #[.int .i64 lim, .slice A L.length c] 46)
  have hb2 := (Below.refl (W0.alloc (.cells #[.int .i64 lim, .slice A L.length c] 46)).heap.size (W0.alloc (.cells #[.int .i64 lim, .slice A L.length c] 46))).alloc (Nat.le_refl _) (.cells #[.int .i64 0, .slice none 0 0] 46)
  refine ⟨(Blk.new W0 _ _).below hb2 (by simp), ?_, (h.below hb1).below hb2, hb1.trans (hb2.mono hb1.size)⟩
  have := Blk.new (W0.alloc (.cells #[.int .i64 lim, .slice A L.length c] 46)) 46 #[.int .i64 0, .slice none 0 0]
  rw [World.size_alloc] at this
  exact this
theorem rvar_named {y : Int} (hy : varP L r = y) (h : RefA W A c L) : Calls Tryd.prog 100 #[.agg #[.int .i64 lim, .slice A L.length c], .int .i64 r] W (RetRB (.int .i64 y) W) := by rw [← hy]; exact rvar_any h
theorem rhas_named {b : Bool} (hb : hasP L.length r = b) (h : RefA W A c L) : Calls Tryd.prog 32 #[.agg #[.int .i64 lim, .slice A L.length c], .int .i64 r] W (RetRB (.bool b) W) := by rw [← hb]; exact rhas_any h
/-- What was in the result's cell does not count: a store there leaves all that there was. -/
theorem StR.stored (h : StR W0 lim A c L W) (x y : Value) : RefA ((W.setCell ⟨W0.heap.size + 1, 0, none⟩ x).setCell ⟨W0.heap.size + 1, 1, none⟩ y) A c L ∧ Below W0.heap.size W0 ((W.setCell ⟨W0.heap.size + 1, 0, none⟩ x).setCell ⟨W0.heap.size + 1, 1, none⟩ y) := by
  have hne := own_blk_ne h.ref.1 h.res (by decide)
  have h1 := h.ref.1.kept (grown_set W ⟨W0.heap.size + 1, 0, none⟩ x) (.inr hne)
  have h2 := h1.kept (grown_set _ ⟨W0.heap.size + 1, 1, none⟩ y) (.inr hne)
  exact ⟨⟨h2, h.ref.2⟩, (h.low.setCell (by show W0.heap.size ≤ W0.heap.size + 1; omega) x).setCell (by show W0.heap.size ≤ W0.heap.size + 1; omega) y⟩
set_option maxRecDepth 100000 in
set_option maxHeartbeats 3200000 in
theorem rmk_var (h : RefA W A c L) (hv : v < 0 ∨ 12 ≤ v) :
    Calls Tryd.prog 64 #[.agg #[.int .i64 lim, .slice A L.length c], .int .i64 v, .int .i64 lo, .int .i64 hi] W (RetRMk lim L 0 52 W) := by
  have hs := str_start W lim c A L h
  have HS := Lib.hid hs
  have HR := Lib.hid hs.ref
  obtain ⟨⟨c0, c1⟩, -⟩ := hs.cells
  have hfew := h.2
  have hcap := h.cap
  have HV : Hid (RefA ((W.alloc (.cells #[.int .i64 lim, .slice A L.length c] 46)).alloc (.cells #[.int .i64 lim, .slice A L.length c] 46)) A c L ∧ Below W.heap.size W ((W.alloc (.cells #[.int .i64 lim, .slice A L.length c] 46)).alloc (.cells #[.int .i64 lim, .slice A L.length c] 46))) := Lib.hid (by
    have hb : Below W.heap.size W ((W.alloc (.cells #[.int .i64 lim, .slice A L.length c] 46)).alloc (.cells #[.int .i64 lim, .slice A L.length c] 46)) := ((Below.refl W.heap.size W).alloc (Nat.le_refl _) _).alloc (by simp) _
    exact ⟨h.below hb, hb⟩)
  clear h hs
  by_cases h0 : v < 0
  · clear hv
    go_enter Tryd.func64, Tryd.ntmps64
    go_wp2_with fail
    refine bodyPost_ret (v := .tuple #[.agg #[.int .i64 lim, .slice A L.length c], .int .i64 0, .int .i64 52]) (by simp [results, Tryd.results64, go_sem]) rfl ?_
    exact ⟨A, c, rfl, HV.out⟩
  · have h1 : 11 < v := by omega
    clear hv
    go_enter Tryd.func64, Tryd.ntmps64
    go_wp2_with fail
    refine bodyPost_ret (v := .tuple #[.agg #[.int .i64 lim, .slice A L.length c], .int .i64 0, .int .i64 52]) (by simp [results, Tryd.results64, go_sem]) rfl ?_
    exact ⟨A, c, rfl, HV.out⟩
set_option maxRecDepth 100000 in
set_option maxHeartbeats 3200000 in
theorem rmk_has1 (h : RefA W A c L) (hv : 0 ≤ v ∧ v < 12) (h1 : hasP L.length lo = false) :
    Calls Tryd.prog 64 #[.agg #[.int .i64 lim, .slice A L.length c], .int .i64 v, .int .i64 lo, .int .i64 hi] W (RetRMk lim L 0 51 W) := by
  have hs := str_start W lim c A L h
  have HS := Lib.hid hs
  have HR := Lib.hid hs.ref
  obtain ⟨⟨c0, c1⟩, -⟩ := hs.cells
  have hfew := h.2
  have hcap := h.cap
  clear h hs
  have g0 : ¬ v < 0 := by omega
  have g1 : ¬ 11 < v := by omega
  have HL := Lib.hid h1
  clear h1
  go_enter Tryd.func64, Tryd.ntmps64
  go_wp2_with (first
    | (go_at_call 32; ((with_reducible refine (rhas_named HL.out HR.out).mono ?_); rintro e w1 ⟨rfl, hb⟩); clear c0 c1; have HS := Lib.hid (HS.out.below hb); have HR := Lib.hid HS.out.ref; obtain ⟨⟨c0, c1⟩, ⟨c2, c3⟩, f2, f3, f4⟩ := HS.out.cells; clear hb))
  have hres := (HS.out.res.set_ 0 (.int .i64 lim)).set_ 1 (.slice A L.length c)
  have r0 := hres.cell 0
  have r1 := hres.cell 1
  simp only [List.setIfInBounds_toArray, List.set_cons_zero, List.set_cons_succ, List.getElem?_toArray, List.getElem?_cons_zero, List.getElem?_cons_succ] at r0 r1
  refine bodyPost_ret (v := .tuple #[.agg #[.int .i64 lim, .slice A L.length c], .int .i64 0, .int .i64 51])  (by simp [results, Tryd.results64, go_sem, r0, r1]) rfl ?_
  obtain ⟨h1, h2⟩ := HS.out.stored (.int .i64 lim) (.slice A L.length c)
  exact ⟨A, c, rfl, h1, h2⟩
set_option maxRecDepth 100000 in
set_option maxHeartbeats 3200000 in
theorem rmk_has2 (h : RefA W A c L) (hv : 0 ≤ v ∧ v < 12) (h1 : hasP L.length lo = true) (h2 : hasP L.length hi = false) :
    Calls Tryd.prog 64 #[.agg #[.int .i64 lim, .slice A L.length c], .int .i64 v, .int .i64 lo, .int .i64 hi] W (RetRMk lim L 0 51 W) := by
  have hs := str_start W lim c A L h
  have HS := Lib.hid hs
  have HR := Lib.hid hs.ref
  obtain ⟨⟨c0, c1⟩, -⟩ := hs.cells
  have hfew := h.2
  have hcap := h.cap
  clear h hs
  have g0 : ¬ v < 0 := by omega
  have g1 : ¬ 11 < v := by omega
  have HL := Lib.hid h1
  have HH := Lib.hid h2
  clear h1 h2
  go_enter Tryd.func64, Tryd.ntmps64
  go_wp2_with (first
    | (go_at_call 32; ((with_reducible refine (rhas_named HL.out HR.out).mono ?_); rintro e w1 ⟨rfl, hb⟩); clear c0 c1; have HS := Lib.hid (HS.out.below hb); have HR := Lib.hid HS.out.ref; obtain ⟨⟨c0, c1⟩, ⟨c2, c3⟩, f2, f3, f4⟩ := HS.out.cells; clear hb)
    | (go_at_call 32; ((with_reducible refine (rhas_named HH.out HR.out).mono ?_); rintro e w1 ⟨rfl, hb⟩); clear c0 c1; have HS := Lib.hid (HS.out.below hb); have HR := Lib.hid HS.out.ref; obtain ⟨⟨c0, c1⟩, ⟨c2, c3⟩, f2, f3, f4⟩ := HS.out.cells; clear hb))
  have hres := (HS.out.res.set_ 0 (.int .i64 lim)).set_ 1 (.slice A L.length c)
  have r0 := hres.cell 0
  have r1 := hres.cell 1
  simp only [List.setIfInBounds_toArray, List.set_cons_zero, List.set_cons_succ, List.getElem?_toArray, List.getElem?_cons_zero, List.getElem?_cons_succ] at r0 r1
  refine bodyPost_ret (v := .tuple #[.agg #[.int .i64 lim, .slice A L.length c], .int .i64 0, .int .i64 51])  (by simp [results, Tryd.results64, go_sem, r0, r1]) rfl ?_
  obtain ⟨h1, h2⟩ := HS.out.stored (.int .i64 lim) (.slice A L.length c)
  exact ⟨A, c, rfl, h1, h2⟩
set_option maxRecDepth 100000 in
set_option maxHeartbeats 3200000 in
theorem rmk_lo (h : RefA W A c L) (hv : 0 ≤ v ∧ v < 12) {y : Int} (h1 : hasP L.length lo = true) (h2 : hasP L.length hi = true) (h3 : varP L lo = y) (h4 : y ≤ v) :
    Calls Tryd.prog 64 #[.agg #[.int .i64 lim, .slice A L.length c], .int .i64 v, .int .i64 lo, .int .i64 hi] W (RetRMk lim L 0 51 W) := by
  have hs := str_start W lim c A L h
  have HS := Lib.hid hs
  have HR := Lib.hid hs.ref
  obtain ⟨⟨c0, c1⟩, -⟩ := hs.cells
  have hfew := h.2
  have hcap := h.cap
  clear h hs
  have g0 : ¬ v < 0 := by omega
  have g1 : ¬ 11 < v := by omega
  have HL := Lib.hid h1
  have HH := Lib.hid h2
  have HVl := Lib.hid h3
  clear h1 h2 h3
  go_enter Tryd.func64, Tryd.ntmps64
  go_wp2_with (first
    | (go_at_call 32; ((with_reducible refine (rhas_named HL.out HR.out).mono ?_); rintro e w1 ⟨rfl, hb⟩); clear c0 c1; have HS := Lib.hid (HS.out.below hb); have HR := Lib.hid HS.out.ref; obtain ⟨⟨c0, c1⟩, ⟨c2, c3⟩, f2, f3, f4⟩ := HS.out.cells; clear hb)
    | (go_at_call 32; ((with_reducible refine (rhas_named HH.out HR.out).mono ?_); rintro e w1 ⟨rfl, hb⟩); clear c0 c1; have HS := Lib.hid (HS.out.below hb); have HR := Lib.hid HS.out.ref; obtain ⟨⟨c0, c1⟩, ⟨c2, c3⟩, f2, f3, f4⟩ := HS.out.cells; clear hb)
    | (go_at_call 100; ((with_reducible refine (rvar_named HVl.out HR.out).mono ?_); rintro e w1 ⟨rfl, hb⟩); clear c0 c1; have HS := Lib.hid (HS.out.below hb); have HR := Lib.hid HS.out.ref; obtain ⟨⟨c0, c1⟩, ⟨c2, c3⟩, f2, f3, f4⟩ := HS.out.cells; clear hb))
  have hres := (HS.out.res.set_ 0 (.int .i64 lim)).set_ 1 (.slice A L.length c)
  have r0 := hres.cell 0
  have r1 := hres.cell 1
  simp only [List.setIfInBounds_toArray, List.set_cons_zero, List.set_cons_succ, List.getElem?_toArray, List.getElem?_cons_zero, List.getElem?_cons_succ] at r0 r1
  refine bodyPost_ret (v := .tuple #[.agg #[.int .i64 lim, .slice A L.length c], .int .i64 0, .int .i64 51])  (by simp [results, Tryd.results64, go_sem, r0, r1]) rfl ?_
  obtain ⟨h1, h2⟩ := HS.out.stored (.int .i64 lim) (.slice A L.length c)
  exact ⟨A, c, rfl, h1, h2⟩
set_option maxRecDepth 100000 in
set_option maxHeartbeats 3200000 in
theorem rmk_hi (h : RefA W A c L) (hv : 0 ≤ v ∧ v < 12) {y z : Int} (h1 : hasP L.length lo = true) (h2 : hasP L.length hi = true) (h3 : varP L lo = y) (h4 : ¬ y ≤ v) (h5 : varP L hi = z) (h6 : z ≤ v) :
    Calls Tryd.prog 64 #[.agg #[.int .i64 lim, .slice A L.length c], .int .i64 v, .int .i64 lo, .int .i64 hi] W (RetRMk lim L 0 51 W) := by
  have hs := str_start W lim c A L h
  have HS := Lib.hid hs
  have HR := Lib.hid hs.ref
  obtain ⟨⟨c0, c1⟩, -⟩ := hs.cells
  have hfew := h.2
  have hcap := h.cap
  clear h hs
  have g0 : ¬ v < 0 := by omega
  have g1 : ¬ 11 < v := by omega
  have HL := Lib.hid h1
  have HH := Lib.hid h2
  have HVl := Lib.hid h3
  have HVh := Lib.hid h5
  clear h1 h2 h3 h5
  go_enter Tryd.func64, Tryd.ntmps64
  go_wp2_with (first
    | (go_at_call 32; ((with_reducible refine (rhas_named HL.out HR.out).mono ?_); rintro e w1 ⟨rfl, hb⟩); clear c0 c1; have HS := Lib.hid (HS.out.below hb); have HR := Lib.hid HS.out.ref; obtain ⟨⟨c0, c1⟩, ⟨c2, c3⟩, f2, f3, f4⟩ := HS.out.cells; clear hb)
    | (go_at_call 32; ((with_reducible refine (rhas_named HH.out HR.out).mono ?_); rintro e w1 ⟨rfl, hb⟩); clear c0 c1; have HS := Lib.hid (HS.out.below hb); have HR := Lib.hid HS.out.ref; obtain ⟨⟨c0, c1⟩, ⟨c2, c3⟩, f2, f3, f4⟩ := HS.out.cells; clear hb)
    | (go_at_call 100; ((with_reducible refine (rvar_named HVl.out HR.out).mono ?_); rintro e w1 ⟨rfl, hb⟩); clear c0 c1; have HS := Lib.hid (HS.out.below hb); have HR := Lib.hid HS.out.ref; obtain ⟨⟨c0, c1⟩, ⟨c2, c3⟩, f2, f3, f4⟩ := HS.out.cells; clear hb)
    | (go_at_call 100; ((with_reducible refine (rvar_named HVh.out HR.out).mono ?_); rintro e w1 ⟨rfl, hb⟩); clear c0 c1; have HS := Lib.hid (HS.out.below hb); have HR := Lib.hid HS.out.ref; obtain ⟨⟨c0, c1⟩, ⟨c2, c3⟩, f2, f3, f4⟩ := HS.out.cells; clear hb))
  have hres := (HS.out.res.set_ 0 (.int .i64 lim)).set_ 1 (.slice A L.length c)
  have r0 := hres.cell 0
  have r1 := hres.cell 1
  simp only [List.setIfInBounds_toArray, List.set_cons_zero, List.set_cons_succ, List.getElem?_toArray, List.getElem?_cons_zero, List.getElem?_cons_succ] at r0 r1
  refine bodyPost_ret (v := .tuple #[.agg #[.int .i64 lim, .slice A L.length c], .int .i64 0, .int .i64 51])  (by simp [results, Tryd.results64, go_sem, r0, r1]) rfl ?_
  obtain ⟨h1, h2⟩ := HS.out.stored (.int .i64 lim) (.slice A L.length c)
  exact ⟨A, c, rfl, h1, h2⟩
set_option maxRecDepth 100000 in
set_option maxHeartbeats 3200000 in
theorem rmk_like (h : RefA W A c L) (hv : 0 ≤ v ∧ v < 12) {y : Int} (h1 : hasP L.length lo = true) (h3 : varP L lo = y) (h4 : ¬ y ≤ v) (he : lo = hi) :
    Calls Tryd.prog 64 #[.agg #[.int .i64 lim, .slice A L.length c], .int .i64 v, .int .i64 lo, .int .i64 hi] W (RetRMk lim L lo 0 W) := by
  have hs := str_start W lim c A L h
  have HS := Lib.hid hs
  have HR := Lib.hid hs.ref
  obtain ⟨⟨c0, c1⟩, -⟩ := hs.cells
  have hfew := h.2
  have hcap := h.cap
  clear h hs
  have g0 : ¬ v < 0 := by omega
  have g1 : ¬ 11 < v := by omega
  subst he
  have HL := Lib.hid h1
  have HVl := Lib.hid h3
  clear h1 h3
  go_enter Tryd.func64, Tryd.ntmps64
  go_wp2_with (first
    | (go_at_call 32; ((with_reducible refine (rhas_named HL.out HR.out).mono ?_); rintro e w1 ⟨rfl, hb⟩); clear c0 c1; have HS := Lib.hid (HS.out.below hb); have HR := Lib.hid HS.out.ref; obtain ⟨⟨c0, c1⟩, ⟨c2, c3⟩, f2, f3, f4⟩ := HS.out.cells; clear hb)
    | (go_at_call 100; ((with_reducible refine (rvar_named HVl.out HR.out).mono ?_); rintro e w1 ⟨rfl, hb⟩); clear c0 c1; have HS := Lib.hid (HS.out.below hb); have HR := Lib.hid HS.out.ref; obtain ⟨⟨c0, c1⟩, ⟨c2, c3⟩, f2, f3, f4⟩ := HS.out.cells; clear hb))
  have hres := (HS.out.res.set_ 0 (.int .i64 lim)).set_ 1 (.slice A L.length c)
  have r0 := hres.cell 0
  have r1 := hres.cell 1
  simp only [List.setIfInBounds_toArray, List.set_cons_zero, List.set_cons_succ, List.getElem?_toArray, List.getElem?_cons_zero, List.getElem?_cons_succ] at r0 r1
  refine bodyPost_ret (v := .tuple #[.agg #[.int .i64 lim, .slice A L.length c], .int .i64 lo, .int .i64 0])  (by simp [results, Tryd.results64, go_sem, r0, r1]) rfl ?_
  obtain ⟨h1, h2⟩ := HS.out.stored (.int .i64 lim) (.slice A L.length c)
  exact ⟨A, c, rfl, h1, h2⟩

end
end Go.Proofs.YtlddelnbjihhgaaDoor
