/- The contract of the document's Move. -/
import Derived.Test.YtlddelnbjihhgaaDoorNRefAny
import Derived.Test.YtlddelnbjihhgaaDoorSMove
namespace Go.Proofs.YtlddelnbjihhgaaDoor
open Go.RowKit
attribute [local go_sem ↓] Go.wp_at_zero Go.wp_at_succ

/-- What the document's Move is asked with. -/
structure RM (W : World) (lim : Nat) (L M0 : List Nd) (A : Option Addr) (c : Nat) (A2 : Option Addr) (c2 : Nat) (M : List Nd) : Prop where
  src : RefA W A c L
  dst : RefA W A2 c2 M
  rightF : RightL L
  rightT : RightL M
  came : Came lim L M0 M
  room : M0.length + L.length ≤ 3999
section
variable {W W1 : World} {lim limF : Nat} {L M0 M M1 : List Nd} {A A2 A3 : Option Addr} {c c2 c3 : Nat}
theorem RM.below (h : RM W lim L M0 A c A2 c2 M) (hb : Below W.heap.size W W1) : RM W1 lim L M0 A c A2 c2 M := ⟨h.src.below hb, h.dst.below hb, h.rightF, h.rightT, h.came, h.room⟩
theorem RM.few (h : RM W lim L M0 A c A2 c2 M) : M.length + 1 ≤ 4000 := by have := came_len h.came; have := h.room; omega
theorem RM.next {r y : Int} (h : RM W lim L M0 A c A2 c2 M) (hs : RefA W1 A c L) (hm : mvP lim L r M = (M1, y, 0)) (hr : RefA W1 A3 c3 M1) : RM W1 lim L M0 A c A3 c3 M1 :=
  ⟨hs, hr, h.rightF, mv_right h.rightF h.rightT hm, came_step h.rightF h.rightT h.came hm, h.room⟩
end
@[reducible] def RMoves (lim limF : Nat) (L M0 : List Nd) (r : Int) : Prop := ∀ (W : World) A c A2 c2 M M1 y cc, RM W lim L M0 A c A2 c2 M → mvP lim L r M = (M1, y, cc) → Calls Tryd.prog 34 #[.agg #[.int .i64 limF, .slice A L.length c], .agg #[.int .i64 lim, .slice A2 M.length c2], .int .i64 r] W (RetRMk lim M1 y cc W)
/-- Within Move: the arenas' boxes, the result's, and the node that was read. -/
structure RS (W0 : World) (lim limF : Nat) (L : List Nd) (A : Option Addr) (c : Nat) (ba bt br nb : Nat) (x1 x2 x3 : Int) (A2 : Option Addr) (c2 : Nat) (M : List Nd) (W : World) : Prop where
  a : Blk W ba 46 #[.int .i64 limF, .slice A L.length c]
  t : Blk W bt 46 #[.int .i64 lim, .slice A2 M.length c2]
  r : Blk W br 46 #[.int .i64 0, .slice none 0 0]
  n : Blk W nb 105 #[.int .i64 x1, .int .i64 x2, .int .i64 x3]
  ra : RefA W A c L
  rt : RefA W A2 c2 M
  low : Below W0.heap.size W0 W
  nt : W0.heap.size ≤ bt
  nr : W0.heap.size ≤ br
  d1 : ba ≠ bt
  d2 : br ≠ bt
section
variable {W0 W W1 : World} {lim limF : Nat} {L M M1 : List Nd} {A A2 A3 : Option Addr} {c c2 c3 ba bt br nb : Nat} {x1 x2 x3 : Int}
theorem RS.below (h : RS W0 lim limF L A c ba bt br nb x1 x2 x3 A2 c2 M W) (hb : Below W.heap.size W W1) : RS W0 lim limF L A c ba bt br nb x1 x2 x3 A2 c2 M W1 :=
  ⟨h.a.below hb h.a.lt, h.t.below hb h.t.lt, h.r.below hb h.r.lt, h.n.below hb h.n.lt, h.ra.below hb, h.rt.below hb, h.low.trans (hb.mono h.low.size), h.nt, h.nr, h.d1, h.d2⟩
theorem only_two (W : World) (b : Nat) (x y : Value) : Only (fun i => i = b) W ((W.setCell ⟨b, 0, none⟩ x).setCell ⟨b, 1, none⟩ y) :=
  (Only.of_grown (grown_set W ⟨b, 0, none⟩ _) (own := fun i => i = b) fun r e => by simpa using e.symm).trans (Only.of_grown (grown_set _ ⟨b, 1, none⟩ _) (own := fun i => i = b) fun r e => by simpa using e.symm) fun _ h => .inl h
theorem RefA.else_ (h : RefA W A c L) {b : Nat} {cs : Array Value} (hb : Blk W b 46 cs) (ho : Only (fun i => i = b) W W1) : RefA W1 A c L := by
  have hne := own_blk_ne h.1 hb (by decide)
  exact ⟨ho.row h.1 (fun g e h => hne (h ▸ e)), h.2⟩
/-- The target is stored anew. -/
theorem RS.put (h : RS W0 lim limF L A c ba bt br nb x1 x2 x3 A2 c2 M W) (hr : RefA W A3 c3 M1) : RS W0 lim limF L A c ba bt br nb x1 x2 x3 A3 c3 M1 ((W.setCell ⟨bt, 0, none⟩ (.int .i64 lim)).setCell ⟨bt, 1, none⟩ (.slice A3 M1.length c3)) := by
  have ho := only_two W bt (.int .i64 lim) (.slice A3 M1.length c3)
  have ht := (h.t.set_ 0 (.int .i64 lim)).set_ 1 (.slice A3 M1.length c3)
  exact ⟨ho.blk h.a h.d1, by simpa using ht, ho.blk h.r h.d2, ho.blk h.n (Blk.ne_ h.n h.t (by decide)), h.ra.else_ h.t ho, hr.else_ h.t ho, h.low.trans (ho.below h.low.size fun _ hi => hi ▸ h.nt), h.nt, h.nr, h.d1, h.d2⟩
/-- The result is stored. -/
theorem RS.ret (h : RS W0 lim limF L A c ba bt br nb x1 x2 x3 A2 c2 M W) (hr : RefA W A3 c3 M1) : RefA ((W.setCell ⟨br, 0, none⟩ (.int .i64 lim)).setCell ⟨br, 1, none⟩ (.slice A3 M1.length c3)) A3 c3 M1 ∧ Below W0.heap.size W0 ((W.setCell ⟨br, 0, none⟩ (.int .i64 lim)).setCell ⟨br, 1, none⟩ (.slice A3 M1.length c3)) := by
  have ho := only_two W br (.int .i64 lim) (.slice A3 M1.length c3)
  exact ⟨hr.else_ h.r ho, h.low.trans (ho.below h.low.size fun _ hi => hi ▸ h.nr)⟩
theorem RS.res (h : RS W0 lim limF L A c ba bt br nb x1 x2 x3 A2 c2 M W) (y : Value) : (W.setCell ⟨br, 0, none⟩ (.int .i64 lim)).cell? ⟨br, 0, none⟩ = some (.int .i64 lim) ∧ ((W.setCell ⟨br, 0, none⟩ (.int .i64 lim)).setCell ⟨br, 1, none⟩ y).cell? ⟨br, 0, none⟩ = some (.int .i64 lim) ∧ ((W.setCell ⟨br, 0, none⟩ (.int .i64 lim)).setCell ⟨br, 1, none⟩ y).cell? ⟨br, 1, none⟩ = some y := by
  have k0 := h.r.set_ 0 (.int .i64 lim)
  have k1 := k0.set_ 1 y
  have c0 := k0.cell 0
  have c1 := k1.cell 0
  have c2 := k1.cell 1
  simp only [List.setIfInBounds_toArray, List.set_cons_zero, List.set_cons_succ, List.getElem?_toArray, List.getElem?_cons_zero, List.getElem?_cons_succ] at c0 c1 c2
  exact ⟨c0, c1, c2⟩
theorem RS.cells (h : RS W0 lim limF L A c ba bt br nb x1 x2 x3 A2 c2 M W) : ((W.cell? ⟨ba, 0, none⟩ = some (.int .i64 limF) ∧ W.cell? ⟨ba, 1, none⟩ = some (.slice A L.length c)) ∧ (W.cell? ⟨bt, 0, none⟩ = some (.int .i64 lim) ∧ W.cell? ⟨bt, 1, none⟩ = some (.slice A2 M.length c2)) ∧ (W.cell? ⟨br, 0, none⟩ = some (.int .i64 0) ∧ W.cell? ⟨br, 1, none⟩ = some (.slice none 0 0))) ∧
    (W.cell? ⟨nb, 0, none⟩ = some (.int .i64 x1) ∧ W.cell? ⟨nb, 1, none⟩ = some (.int .i64 x2) ∧ W.cell? ⟨nb, 2, none⟩ = some (.int .i64 x3)) ∧ (W.frozen? ⟨bt, 0, none⟩ = false ∧ W.frozen? ⟨bt, 1, none⟩ = false ∧ W.frozen? ⟨br, 0, none⟩ = false ∧ W.frozen? ⟨br, 1, none⟩ = false) ∧ bt < W.heap.size ∧ br < W.heap.size ∧ ba < W.heap.size ∧ nb < W.heap.size :=
  ⟨⟨⟨h.a.cell 0, h.a.cell 1⟩, ⟨h.t.cell 0, h.t.cell 1⟩, h.r.cell 0, h.r.cell 1⟩, ⟨h.n.cell 0, h.n.cell 1, h.n.cell 2⟩, ⟨h.t.frozen 0, h.t.frozen 1, h.r.frozen 0, h.r.frozen 1⟩, h.t.lt, h.r.lt, h.a.lt, h.n.lt⟩
theorem rs_start (hs : RefA W A c L) (ht : RefA W A2 c2 M) : RS W lim limF L A c W.heap.size (W.heap.size + 1) (W.heap.size + 1 + 1) (W.heap.size + 1 + 1 + 1) x1 x2 x3 A2 c2 M
    ((((W.alloc (.cells #[.int .i64 limF, .slice A L.length c] 46)).alloc (.cells #[.int .i64 lim, .slice A2 M.length c2] 46)).alloc (.cells #[.int .i64 0, .slice none 0 0] 46)).alloc (.cells #[.int .i64 x1, .int .i64 x2, .int .i64 x3] 105)) := by
  have s1 := size_up (rfl : W.heap.size = W.heap.size) (.cells #[.int .i64 limF, .slice A L.length c] 46)
  have s2 := size_up s1 (.cells #[.int .i64 lim, .slice A2 M.length c2] 46)
  have s3 := size_up s2 (.cells #[.int .i64 0, .slice none 0 0] 46)
  have hb := ((((Below.refl W.heap.size W).alloc (Nat.le_refl _) (.cells #[.int .i64 limF, .slice A L.length c] 46)).alloc (by rw [s1]; omega) (.cells #[.int .i64 lim, .slice A2 M.length c2] 46)).alloc (by rw [s2]; omega) (.cells #[.int .i64 0, .slice none 0 0] 46)).alloc (by rw [s3]; omega) (.cells #[.int .i64 x1, .int .i64 x2, .int .i64 x3] 105)
  exact ⟨(((Blk.new_ (rfl : W.heap.size = W.heap.size) 46 #[.int .i64 limF, .slice A L.length c]).up (.cells #[.int .i64 lim, .slice A2 M.length c2] 46)).up (.cells #[.int .i64 0, .slice none 0 0] 46)).up _, ((Blk.new_ s1 46 #[.int .i64 lim, .slice A2 M.length c2]).up (.cells #[.int .i64 0, .slice none 0 0] 46)).up _, (Blk.new_ s2 46 #[.int .i64 0, .slice none 0 0]).up _, Blk.new_ s3 _ _, hs.below hb, ht.below hb, hb, by omega, by omega, by omega, by omega⟩
set_option maxRecDepth 100000 in
set_option maxHeartbeats 3200000 in
theorem rmove_end {M0 : List Nd} (h : RM W lim L M0 A c A2 c2 M) {r : Int} (hr : ¬ (0 ≤ r ∧ r < (L.length : Int))) :
    Calls Tryd.prog 34 #[.agg #[.int .i64 limF, .slice A L.length c], .agg #[.int .i64 lim, .slice A2 M.length c2], .int .i64 r] W (RetRMk lim M r 0 W) := by
  have hfew := h.src.2
  have hfew2 := h.few
  have hcap := h.src.cap
  have hcap2 := h.dst.cap
  have s1 := size_up (rfl : W.heap.size = W.heap.size) (.cells #[.int .i64 limF, .slice A L.length c] 46)
  have s2 := size_up s1 (.cells #[.int .i64 lim, .slice A2 M.length c2] 46)
  have hb := ((((Below.refl W.heap.size W).alloc (Nat.le_refl _) (.cells #[.int .i64 limF, .slice A L.length c] 46)).alloc (by rw [s1]; omega) (.cells #[.int .i64 lim, .slice A2 M.length c2] 46)).alloc (by rw [s2]; omega) (.cells #[.int .i64 lim, .slice A2 M.length c2] 46))
  have HV := Lib.hid (And.intro (h.dst.below hb) hb)
  clear h hb s1 s2
  by_cases h0 : r < 0
  · clear hr
    go_enter Tryd.func34, Tryd.ntmps34
    go_wp2_with fail
    refine bodyPost_ret (v := .tuple #[.agg #[.int .i64 lim, .slice A2 M.length c2], .int .i64 r, .int .i64 0]) (by simp [results, Tryd.results34, go_sem]) rfl ?_
    exact ⟨A2, c2, rfl, HV.out⟩
  · have h1 : (L.length : Int) ≤ r := by omega
    clear hr
    go_enter Tryd.func34, Tryd.ntmps34
    go_wp2_with fail
    refine bodyPost_ret (v := .tuple #[.agg #[.int .i64 lim, .slice A2 M.length c2], .int .i64 r, .int .i64 0]) (by simp [results, Tryd.results34, go_sem]) rfl ?_
    exact ⟨A2, c2, rfl, HV.out⟩
set_option maxRecDepth 100000 in
set_option maxHeartbeats 6400000 in
theorem rmove_node {M0 : List Nd} (h : RM W lim L M0 A c A2 c2 M) {k : Nat} (hx : L[k]? = some (x1, x2, x3)) (ih2 : RMoves lim limF L M0 x2) (ih3 : RMoves lim limF L M0 x3) {M3 : List Nd} {y3 cc : Int} (hm : mvP lim L (k : Int) M = (M3, y3, cc)) :
    Calls Tryd.prog 34 #[.agg #[.int .i64 limF, .slice A L.length c], .agg #[.int .i64 lim, .slice A2 M.length c2], .int .i64 (k : Int)] W (RetRMk lim M3 y3 cc W) := by
  have hfew := h.src.2
  have hfew2 := h.few
  have hcap := h.src.cap
  have hcap2 := h.dst.cap
  have hkl := get_len hx
  have s1 := size_up (rfl : W.heap.size = W.heap.size) (.cells #[.int .i64 limF, .slice A L.length c] 46)
  have s2 := size_up s1 (.cells #[.int .i64 lim, .slice A2 M.length c2] 46)
  have hb := ((((Below.refl W.heap.size W).alloc (Nat.le_refl _) (.cells #[.int .i64 limF, .slice A L.length c] 46)).alloc (by rw [s1]; omega) (.cells #[.int .i64 lim, .slice A2 M.length c2] 46)).alloc (by rw [s2]; omega) (.cells #[.int .i64 0, .slice none 0 0] 46))
  obtain ⟨g, hA, hg, k0, k1, k2⟩ := (h.src.below hb).node hx
  have HR0 := Lib.hid (rs_start (x1 := x1) (x2 := x2) (x3 := x3) (lim := lim) (limF := limF) h.src h.dst)
  have HM := Lib.hid h
  have HX := Lib.hid hx
  have I2 := Lib.hid ih2
  have I3 := Lib.hid ih3
  have HMv := Lib.hid hm
  have d0 : decide ((L.length : Int) ≤ (k : Int)) = false := decide_eq_false (by omega)
  subst hA
  clear h hx ih2 ih3 hm s1 s2 hb
  go_enter Tryd.func34, Tryd.ntmps34
  go_upto_region 4 with fail
  obtain ⟨V, hV⟩ : ∃ V, ((((W.alloc (.cells #[.int .i64 limF, .slice (some ⟨g, 0, none⟩) L.length c] 46)).alloc (.cells #[.int .i64 lim, .slice A2 M.length c2] 46)).alloc (.cells #[.int .i64 0, .slice none 0 0] 46)).alloc (.cells #[.int .i64 x1, .int .i64 x2, .int .i64 x3] 105)) = V := ⟨_, rfl⟩
  obtain ⟨ba, hba⟩ : ∃ ba, W.heap.size = ba := ⟨_, rfl⟩
  obtain ⟨bt, hbt⟩ : ∃ bt, ba + 1 = bt := ⟨_, rfl⟩
  obtain ⟨br, hbr⟩ : ∃ br, bt + 1 = br := ⟨_, rfl⟩
  obtain ⟨nb, hnb⟩ : ∃ nb, br + 1 = nb := ⟨_, rfl⟩
  rw [hV, hba, hbt, hbr, hnb] at HR0
  rw [hV, hba, hbt, hbr, hnb]
  clear hV hba hbt hbr hnb k0 k1 k2 hg d0
  have HM1 := Lib.hid (HM.out.below HR0.out.low)
  obtain ⟨⟨⟨p0, p1⟩, ⟨p2, p3⟩, p4, p5⟩, ⟨n0, n1, n2⟩, ⟨z0, z1, z2, z3⟩, l0, l1, l2, l3⟩ := HR0.out.cells
  obtain ⟨M1, y1, c1, h1⟩ : ∃ M1 y1 c1, mvP lim L x2 M = (M1, y1, c1) := ⟨_, _, _, rfl⟩
  have HK1 := Lib.hid (I2.out V _ _ _ _ _ _ _ _ HM1.out h1)
  have H1 := Lib.hid h1
  clear h1
  go_upto_region 5 with (first
    | (go_at_call 34; ((with_reducible refine HK1.out.mono ?_); rintro e w2 ⟨A3, c3, rfl, hr3, hb3⟩); have HS2 := Lib.hid (HR0.out.below hb3); have HR3 := Lib.hid hr3; have HB3 := Lib.hid hb3; clear p0 p1 p2 p3 p4 p5 n0 n1 n2 z0 z1 z2 z3 l0 l1 l2 l3; obtain ⟨⟨⟨p0, p1⟩, ⟨p2, p3⟩, p4, p5⟩, ⟨n0, n1, n2⟩, ⟨z0, z1, z2, z3⟩, l0, l1, l2, l3⟩ := HS2.out.cells; clear hb3 hr3))
  have HT2 := Lib.hid (HS2.out.put HR3.out)
  obtain ⟨V2, hV2⟩ : ∃ V2, ((w2.setCell ⟨bt, 0, none⟩ (.int .i64 lim)).setCell ⟨bt, 1, none⟩ (.slice A3 M1.length c3)) = V2 := ⟨_, rfl⟩
  rw [hV2] at HT2
  rw [hV2]
  clear hV2 p0 p1 p2 p3 p4 p5 n0 n1 n2 z0 z1 z2 z3 l0 l1 l2 l3
  obtain ⟨⟨⟨p0, p1⟩, ⟨p2, p3⟩, p4, p5⟩, ⟨n0, n1, n2⟩, ⟨z0, z1, z2, z3⟩, l0, l1, l2, l3⟩ := HT2.out.cells
  by_cases hc1 : c1 = 0
  · subst hc1
    have HM2 := Lib.hid (HM1.out.next HT2.out.ra H1.out HT2.out.rt)
    have hcap3 := HT2.out.rt.cap
    have hfew3 := HM2.out.few
    obtain ⟨M2, y2, c4, h2⟩ : ∃ M2 y2 c4, mvP lim L x3 M1 = (M2, y2, c4) := ⟨_, _, _, rfl⟩
    have HK2 := Lib.hid (I3.out V2 _ _ _ _ _ _ _ _ HM2.out h2)
    have H2 := Lib.hid h2
    clear h2
    go_upto_region 8 with (first
      | (go_at_call 34; ((with_reducible refine HK2.out.mono ?_); rintro e w4 ⟨A5, c5, rfl, hr5, hb5⟩); have HS4 := Lib.hid (HT2.out.below hb5); have HR5 := Lib.hid hr5; clear p0 p1 p2 p3 p4 p5 n0 n1 n2 z0 z1 z2 z3 l0 l1 l2 l3; obtain ⟨⟨⟨p0, p1⟩, ⟨p2, p3⟩, p4, p5⟩, ⟨n0, n1, n2⟩, ⟨z0, z1, z2, z3⟩, l0, l1, l2, l3⟩ := HS4.out.cells; clear hb5 hr5))
    have HT4 := Lib.hid (HS4.out.put HR5.out)
    obtain ⟨V4, hV4⟩ : ∃ V4, ((w4.setCell ⟨bt, 0, none⟩ (.int .i64 lim)).setCell ⟨bt, 1, none⟩ (.slice A5 M2.length c5)) = V4 := ⟨_, rfl⟩
    rw [hV4] at HT4
    rw [hV4]
    clear hV4 p0 p1 p2 p3 p4 p5 n0 n1 n2 z0 z1 z2 z3 l0 l1 l2 l3
    obtain ⟨⟨⟨p0, p1⟩, ⟨p2, p3⟩, p4, p5⟩, ⟨n0, n1, n2⟩, ⟨z0, z1, z2, z3⟩, l0, l1, l2, l3⟩ := HT4.out.cells
    have hcap5 := HT4.out.rt.cap
    by_cases hc4 : c4 = 0
    · subst hc4
      have HM4 := Lib.hid (HM2.out.next HT4.out.ra H2.out HT4.out.rt)
      have hmk : mkP lim M2 x1 y1 y2 = (M3, y3, cc) := (mv_ok3 HM.out.rightF HX.out H1.out H2.out).symm.trans HMv.out
      have HK5 := Lib.hid (rmk_any hmk HM4.out.dst HM4.out.rightT HM4.out.few)
      clear hmk
      go_wp2_with (first
        | (go_at_call 64; ((with_reducible refine HK5.out.mono ?_); rintro e w6 ⟨A7, c7, rfl, hr7, hb7⟩); have HS6 := Lib.hid (HT4.out.below hb7); have HR7 := Lib.hid hr7; clear p0 p1 p2 p3 p4 p5 n0 n1 n2 z0 z1 z2 z3 l0 l1 l2 l3; obtain ⟨⟨⟨p0, p1⟩, ⟨p2, p3⟩, p4, p5⟩, ⟨n0, n1, n2⟩, ⟨z0, z1, z2, z3⟩, l0, l1, l2, l3⟩ := HS6.out.cells; clear hb7 hr7))
      have hL := HS6.out.res (.slice A7 M3.length c7)
      have r0 := hL.2.1
      have r1 := hL.2.2
      refine bodyPost_ret (v := .tuple #[.agg #[.int .i64 lim, .slice A7 M3.length c7], .int .i64 y3, .int .i64 cc]) (by simp [results, Tryd.results34, go_sem, r0, r1]) rfl ?_
      exact ⟨A7, c7, rfl, HS6.out.ret HR7.out⟩
    · have e := (mv_bad2 HM.out.rightF HX.out H1.out H2.out hc4).symm.trans HMv.out
      simp only [Prod.mk.injEq] at e
      obtain ⟨rfl, rfl, rfl⟩ := e
      have q1 : (c4 == 0) = false := by simpa using hc4
      have q2 : decide (c4 = 0) = false := decide_eq_false hc4
      have q3 : (c4 != 0) = true := by simpa using hc4
      go_wp2_with fail
      have hL := HT4.out.res (.slice A5 M2.length c5)
      have r0 := hL.2.1
      have r1 := hL.2.2
      refine bodyPost_ret (v := .tuple #[.agg #[.int .i64 lim, .slice A5 M2.length c5], .int .i64 0, .int .i64 c4]) (by simp [results, Tryd.results34, go_sem, r0, r1]) rfl ?_
      exact ⟨A5, c5, rfl, HT4.out.ret HT4.out.rt⟩
  · have e := (mv_bad1 HM.out.rightF HX.out H1.out hc1).symm.trans HMv.out
    simp only [Prod.mk.injEq] at e
    obtain ⟨rfl, rfl, rfl⟩ := e
    have q1 : (c1 == 0) = false := by simpa using hc1
    have q2 : decide (c1 = 0) = false := decide_eq_false hc1
    have q3 : (c1 != 0) = true := by simpa using hc1
    go_wp2_with fail
    have hL := HT2.out.res (.slice A3 M1.length c3)
    have r0 := hL.2.1
    have r1 := hL.2.2
    refine bodyPost_ret (v := .tuple #[.agg #[.int .i64 lim, .slice A3 M1.length c3], .int .i64 0, .int .i64 c1]) (by simp [results, Tryd.results34, go_sem, r0, r1]) rfl ?_
    exact ⟨A3, c3, rfl, HT2.out.ret HT2.out.rt⟩
end
theorem rmove_all {lim limF : Nat} {L M0 : List Nd} (hR : RightL L) : ∀ r, RMoves lim limF L M0 r := by
  refine down hR (fun r hr W A c A2 c2 M M1 y cc h hm => ?_) fun k x hx _ _ ih2 ih3 W A c A2 c2 M M1 y cc h hm => ?_
  · rw [mv_out hr] at hm
    simp only [Prod.mk.injEq] at hm
    obtain ⟨rfl, rfl, rfl⟩ := hm
    exact rmove_end h hr
  · obtain ⟨x1, x2, x3⟩ := x
    exact rmove_node h hx ih2 ih3 hm
end Go.Proofs.YtlddelnbjihhgaaDoor
