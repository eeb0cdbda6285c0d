/- The contract of the document's below: a row of refs, with those below one that are not in it. -/
import Derived.Test.YtcolinjgfcjimaaCRefBase
import Derived.Test.YtcolinjgfcjimaaCSumsWalk
import Derived.Test.YtcolinjgfcjimaaCBuild
import Derived.Deep.LoopGhost
namespace Go.Proofs.Ytcolinjgfcjimaa
open Go.RowKit
attribute [local go_sem ↓] Go.wp_at_zero Go.wp_at_succ

/-- All nodes of a row have their children in it, but those of X. -/
def Cl (L : List Nd) (S X : List Int) : Prop := ∀ (k : Nat) (x : Nd), L[k]? = some x → (k : Int) ∈ S → (k : Int) ∉ X → x.2.1 ∈ S ∧ x.2.2 ∈ S
/-- What becomes of a row l. -/
structure Got (L : List Nd) (f : Int) (l R : List Int) : Prop where
  sub : ∀ r ∈ l, r ∈ R
  has : f ∈ R
  nodup : l.Nodup → R.Nodup
  come : ∀ r ∈ R, r ∈ l ∨ Reach L f r
  closed : ∀ X, Cl L l X → Cl L R X
section
variable {L : List Nd} {f : Int} {l R : List Int}
theorem got_old (h : f ∈ l) : Got L f l l := ⟨fun _ h => h, h, fun h => h, fun _ h => .inl h, fun _ h => h⟩
theorem nodup_snoc (hn : f ∉ l) (h : l.Nodup) : (l ++ [f]).Nodup := by
  rw [List.nodup_append]
  refine ⟨h, by simp, fun a ha b hb e => ?_⟩
  rw [List.mem_singleton] at hb
  subst hb
  subst e
  exact hn ha
theorem got_end (hn : f ∉ l) (hf : ¬ (0 ≤ f ∧ f < (L.length : Int))) : Got L f l (l ++ [f]) :=
  ⟨fun _ h => List.mem_append_left _ h, by simp, nodup_snoc hn, fun r h => by
    rw [List.mem_append, List.mem_singleton] at h
    rcases h with h | rfl
    · exact .inl h
    · exact .inr .self, fun X h k x hx hk hX => by
    rw [List.mem_append, List.mem_singleton] at hk
    rcases hk with hk | hk
    · obtain ⟨h1, h2⟩ := h k x hx hk hX
      exact ⟨List.mem_append_left _ h1, List.mem_append_left _ h2⟩
    · have := get_len hx; omega⟩
theorem got_node {k : Nat} {x : Nd} {R1 R2 : List Int} (hx : L[k]? = some x) (hn : (k : Int) ∉ l) (h1 : Got L x.2.1 (l ++ [(k : Int)]) R1) (h2 : Got L x.2.2 R1 R2) : Got L (k : Int) l R2 where
  sub r h := h2.sub r (h1.sub r (List.mem_append_left _ h))
  has := h2.sub _ (h1.sub _ (by simp))
  nodup h := h2.nodup (h1.nodup (nodup_snoc hn h))
  come r h := by
    rcases h2.come r h with h | h
    · rcases h1.come r h with h | h
      · rw [List.mem_append, List.mem_singleton] at h
        rcases h with h | rfl
        · exact .inl h
        · exact .inr .self
      · exact .inr (Reach.trans (.low .self hx) h)
    · exact .inr (Reach.trans (.high .self hx) h)
  closed X h := by
    have hX : Cl L (l ++ [(k : Int)]) ((k : Int) :: X) := fun j y hy hj hjX => by
      rw [List.mem_append, List.mem_singleton] at hj
      rw [List.mem_cons, not_or] at hjX
      rcases hj with hj | hj
      · obtain ⟨a, b⟩ := h j y hy hj hjX.2
        exact ⟨List.mem_append_left _ a, List.mem_append_left _ b⟩
      · exact absurd hj hjX.1
    have hc := h2.closed _ (h1.closed _ hX)
    intro j y hy hj hjX
    by_cases e : j = k
    · subst e
      rw [hx] at hy
      cases hy
      exact ⟨h2.sub _ h1.has, h2.has⟩
    · exact hc j y hy hj (by rw [List.mem_cons, not_or]; exact ⟨fun h => e (Int.ofNat.inj h), hjX⟩)
/-- Of the row of none it is all below f. -/
theorem got_all (h : Got L f [] R) : R.Nodup ∧ ∀ r, r ∈ R ↔ Reach L f r :=
  ⟨h.nodup List.nodup_nil, fun r => ⟨fun hr => by
    rcases h.come r hr with h | h
    · cases h
    · exact h, reach_row h.has (fun k x hk hx => h.closed [] (fun _ _ _ h => by cases h) k x hx hk (by simp)) r⟩⟩
end
def ownB (v : Value) : Nat → Prop := fun i => v.ownBlock = some i
/-- What below returns. -/
def RetBel (base : Nat) (L : List Nd) (f : Int) (l : List Int) (v : Value) (w : World) (e : Ending) (w' : World) : Prop :=
  ∃ (R : List Int) (v' : Value), e = .returned v' ∧ w'.ownsRow base 3 1 v' R.length (R.map (Value.int .i64)) ∧ Got L f l R ∧ Only (ownB v) w w' ∧ ∀ k, v'.ownBlock = some k → v.ownBlock = some k ∨ w.heap.size ≤ k
/-- What is asked of below at a ref: f0 is where all began. -/
def BelAt (lim : Nat) (L : List Nd) (f0 f : Int) : Prop := Reach L f0 f → ∀ (l : List Int) (v : Value) (base : Nat) (W : World) (A : Option Addr) (c : Nat), RefA W A c L → base ≤ W.heap.size → W.ownsRow base 3 1 v l.length (l.map (Value.int .i64)) → l.Nodup → (∀ r ∈ l, Reach L f0 r) →
  Calls Try.prog 39 #[.agg #[.int .i64 lim, .slice A L.length c], v, .int .i64 f] W (RetBel base L f l v W)
/-- The document's arena, and the call's box. -/
def BoxR (bx lim : Nat) (L : List Nd) (A : Option Addr) (c : Nat) (W : World) : Prop := RefA W A c L ∧ Blk W bx 27 #[.int .i64 lim, .slice A L.length c]
section
variable {L : List Nd} {lim bx c : Nat} {A : Option Addr} {W W1 : World}
theorem BoxR.ref (h : BoxR bx lim L A c W) : RefA W A c L := h.1
theorem BoxR.below (h : BoxR bx lim L A c W) (hb : Below W.heap.size W W1) : BoxR bx lim L A c W1 := ⟨h.1.below hb, h.2.below hb h.2.lt⟩
theorem BoxR.only {base n : Nat} {v : Value} {xs : List Value} (h : BoxR bx lim L A c W) (hr : W.ownsRow base 3 1 v n xs) (ho : Only (ownB v) W W1) : BoxR bx lim L A c W1 := by
  refine ⟨⟨ho.row h.1.1 fun g hg => ?_, h.1.2⟩, ho.blk h.2 ?_⟩
  · exact own_row_ne h.1.1 hr (by decide) hg
  · exact own_blk_ne hr h.2 (by decide)
theorem BoxR.cells (h : BoxR bx lim L A c W) : bx < W.heap.size ∧ W.cell? ⟨bx, 0, none⟩ = some (.int .i64 lim) ∧ W.cell? ⟨bx, 1, none⟩ = some (.slice A L.length c) := ⟨h.2.lt, h.2.cell 0, h.2.cell 1⟩
theorem BoxR.node (h : BoxR bx lim L A c W) {k : Nat} {x1 x2 x3 : Int} (hx : L[k]? = some (x1, x2, x3)) {g : Nat} (hA : A = some ⟨g, 0, none⟩) : (bx < W.heap.size ∧ g < W.heap.size) ∧ W.cell? ⟨bx, 0, none⟩ = some (.int .i64 lim) ∧ W.cell? ⟨bx, 1, none⟩ = some (.slice A L.length c) ∧ W.cell? ⟨g, k * 3 + 1, none⟩ = some (.int .i64 x2) ∧ W.cell? ⟨g, k * 3 + 2, none⟩ = some (.int .i64 x3) := by
  obtain ⟨g', hA', hg, h0, h1, h2⟩ := h.1.node hx
  rw [hA] at hA'
  cases hA'
  exact ⟨⟨h.2.lt, hg⟩, h.2.cell 0, h.2.cell 1, h1, h2⟩
set_option maxRecDepth 100000 in
set_option maxHeartbeats 1600000 in
/-- It is there already. -/
theorem bel_walk {f : Int} {l : List Int} {base : Nat} {v : Value} (hv : W.ownsRow base 3 1 v l.length (l.map (Value.int .i64))) (hfew : l.length ≤ 8001) (hin : f ∈ l) :
    Calls Try.prog 39 #[.agg #[.int .i64 lim, .slice A L.length c], v, .int .i64 f] W (RetBel base L f l v W) := by
  obtain ⟨Av, cv, rfl, hI⟩ := irow_of hv
  have hb := (Below.refl W.heap.size W).alloc (Nat.le_refl _) (.cells #[.int .i64 lim, .slice A L.length c] 27)
  obtain ⟨W1, hW1⟩ : ∃ W1, W.alloc (.cells #[.int .i64 lim, .slice A L.length c] 27) = W1 := ⟨_, rfl⟩
  rw [hW1] at hb
  have HB := Lib.hid hb
  have HV := Lib.hid hv
  have HI := Lib.hid (hI.below hb)
  have HIn := Lib.hid hin
  obtain ⟨N, hN⟩ : ∃ N, l.length = N := ⟨_, rfl⟩
  rw [hN] at HV hfew ⊢
  have HN := Lib.hid hN
  clear hv hI hb hin hN
  go_enter Try.func39, Try.ntmps39
  go_wp2_with fail
  go_loopg [7] N (fun gk t7 wr => ∃ i : Nat, i + gk = N ∧ t7 = .int .i64 (i : Int) ∧ wr = W1 ∧ ∀ j, j < i → l[j]? ≠ some f)
  case atStart => exact ⟨0, by omega, rfl, rfl, fun j hj => absurd hj (Nat.not_lt_zero _)⟩
  case round =>
    rename Nat => g0
    obtain ⟨i, hi, rfl, rfl, hall⟩ := hrel
    have HJ := Lib.hid hi
    have HAll := Lib.hid hall
    clear hi hall
    by_cases hir : i < N
    · obtain ⟨z, hz⟩ : ∃ z, l[i]? = some z := ⟨_, List.getElem?_eq_getElem (by have := HN.out; omega)⟩
      obtain ⟨g, rfl, hg, q0⟩ := HI.out i z hz
      have HZ := Lib.hid hz
      clear hz
      by_cases hzf : z = f
      · subst hzf
        go_wp2_with fail
        go_ret
        exact ⟨l, _, rfl, by rw [HN.out]; exact own_below HV.out HB.out, got_old HIn.out, Only.of_below HB.out _, fun k hk => .inl hk⟩
      · have hd : (z == f) = false := by simpa using hzf
        have HZf := Lib.hid hzf
        go_wp2_with fail
        have hi := HJ.out
        go_roundg (g0 - 1)
        case measure => omega
        case rel => exact ⟨i + 1, by omega, by simp, rfl, fun j hj => by
          by_cases e : j = i
          · subst e; rw [HZ.out]; exact fun h => HZf.out (by injection h)
          · exact HAll.out j (by omega)⟩
    · exfalso
      obtain ⟨j, hj⟩ := List.mem_iff_getElem?.1 HIn.out
      have := (List.getElem?_eq_some_iff.1 hj).1
      exact HAll.out j (by have := HN.out; omega) hj
theorem bel_added {base N : Nat} {f : Int} {l : List Int} {v v2 : Value} {W W2 w3 : World} (hN : l.length = N) (hb : Below W.heap.size W W2) (ho : w3.ownsRow base 3 1 v2 (N + 1) (l.map (Value.int .i64) ++ [.int .i64 f])) (hg : W2.grownBy w3 v.ownBlock) (hv : v2.ownBlock = v.ownBlock ∨ v2.ownBlock = some W2.heap.size) :
    w3.ownsRow base 3 1 v2 (l ++ [f]).length ((l ++ [f]).map (Value.int .i64)) ∧ Only (ownB v) W w3 ∧ ∀ k, v2.ownBlock = some k → v.ownBlock = some k ∨ W.heap.size ≤ k := by
  refine ⟨by rw [List.length_append, hN, List.map_append]; exact ho, (Only.of_below hb (ownB v)).trans (Only.of_grown hg (own := ownB v) fun r e => e) fun i h => .inl h, fun k hk => ?_⟩
  rcases hv with e | e
  · exact .inl (e ▸ hk)
  · rw [e] at hk
    injection hk with hk
    exact .inr (by have := hb.size; omega)
theorem bel_step {v v2 v5 : Value} {W w3 w5 : World} (h : Only (ownB v) W w3 ∧ ∀ k, v2.ownBlock = some k → v.ownBlock = some k ∨ W.heap.size ≤ k) (on1 : Only (ownB v2) w3 w5) (ow1 : ∀ k, v5.ownBlock = some k → v2.ownBlock = some k ∨ w3.heap.size ≤ k) :
    Only (ownB v) W w5 ∧ ∀ k, v5.ownBlock = some k → v.ownBlock = some k ∨ W.heap.size ≤ k :=
  ⟨h.1.trans on1 h.2, fun k hk => (ow1 k hk).elim (h.2 k) fun hk => .inr (Nat.le_trans h.1.size hk)⟩
set_option maxRecDepth 100000 in
set_option maxHeartbeats 3200000 in
theorem bel_far {f : Int} {l : List Int} {base : Nat} {v : Value} (h : RefA W A c L) (hbase : base ≤ W.heap.size) (hv : W.ownsRow base 3 1 v l.length (l.map (Value.int .i64))) (hfew : l.length ≤ 8001) (hin : f ∉ l) (hf : ¬ (0 ≤ f ∧ f < (L.length : Int))) :
    Calls Try.prog 39 #[.agg #[.int .i64 lim, .slice A L.length c], v, .int .i64 f] W (RetBel base L f l v W) := by
  have HF := Lib.hid hf
  have hr2 : f < 0 ∨ (0 ≤ f ∧ (L.length : Int) ≤ f) := by omega
  clear hf
  have hcap := h.cap
  have hLfew := h.2
  have hinfo : (Try.prog.info? 3).map (fun i => (i.zero, i.size, i.bytes)) = some (some (.int .i64 0), 1, 8) := by kernel_rfl
  obtain ⟨i0, hi, hz0, hz1, hz2⟩ := info_parts hinfo
  have HI0 := Lib.hid (And.intro hi (And.intro hz0 (And.intro hz1 hz2)))
  obtain ⟨Av, cv, rfl, hI⟩ := irow_of hv
  have hb := (Below.refl W.heap.size W).alloc (Nat.le_refl _) (.cells #[.int .i64 lim, .slice A L.length c] 27)
  have hk := Blk.new W 27 #[.int .i64 lim, .slice A L.length c]
  obtain ⟨W1, hW1⟩ : ∃ W1, W.alloc (.cells #[.int .i64 lim, .slice A L.length c] 27) = W1 := ⟨_, rfl⟩
  rw [hW1] at hb hk
  have HB := Lib.hid hb
  have HBx : Hid (BoxR W.heap.size lim L A c W1) := Lib.hid ⟨h.below hb, hk⟩
  have HV := Lib.hid (own_below hv hb)
  have HI := Lib.hid (hI.below hb)
  have HIn := Lib.hid hin
  have HBs := Lib.hid (Nat.le_trans hbase hb.size)
  obtain ⟨N, hN⟩ : ∃ N, l.length = N := ⟨_, rfl⟩
  rw [hN] at HV hfew ⊢
  have HN := Lib.hid hN
  have HBd : Hid (N + 1 ≤ maxLen ∧ (N + 1) * 8 ≤ 140737488355328) := Lib.hid (by unfold maxLen; omega)
  clear h hbase hv hI hb hk hin hN hinfo hi hz0 hz1 hz2
  go_enter Try.func39, Try.ntmps39
  go_wp2_with fail
  go_loopg [7] N (fun gk t7 wr => ∃ i : Nat, i + gk = N ∧ t7 = .int .i64 (i : Int) ∧ wr = W1)
  case atStart => exact ⟨0, by omega, rfl, rfl⟩
  case round =>
    rename Nat => g0
    obtain ⟨i, hi, rfl, rfl⟩ := hrel
    have HJ := Lib.hid hi
    clear hi
    by_cases hir : i < N
    · obtain ⟨z, hz⟩ : ∃ z, l[i]? = some z := ⟨_, List.getElem?_eq_getElem (by have := HN.out; omega)⟩
      obtain ⟨g, rfl, hg, q0⟩ := HI.out i z hz
      have hzf : ¬ z = f := fun e => HIn.out (e ▸ List.mem_of_getElem? hz)
      clear hz
      have hd : (z == f) = false := by simpa using hzf
      clear hzf
      go_wp2_with fail
      have hi := HJ.out
      go_roundg (g0 - 1)
      case measure => omega
      case rel => exact ⟨i + 1, by omega, by simp, rfl⟩
    · have hie : i = N := by have := HJ.out; omega
      subst hie
      obtain ⟨hi, hz0, hz1, hz2⟩ := HI0.out
      have hbx := (Below.refl wr.heap.size wr).alloc (Nat.le_refl _) (.cells #[.int .i64 f] 3)
      have HBe := Lib.hid hbx
      have HV2 := Lib.hid (own_below HV.out hbx)
      have HBx2 := Lib.hid (HBx.out.below hbx)
      have HB2 := Lib.hid (HB.out.trans (hbx.mono HB.out.size))
      clear hbx
      rcases hr2 with hr2 | ⟨hr2, hr3⟩
      · go_wp2_with (first
          | (at_builtin; refine wpList_append_at rfl _ _ 39 rfl base 3 i0 (.int .i64 0) 1 8 Try.underlying39 hi hz0 hz1 hz2 rfl (by decide) _ _ _ rfl HV2.out ⟨wr.heap.size, 0, none⟩ 1 1 [.int .i64 f] rfl rfl ?_ ?_ ?_ ?_ ?_ ?_; exact one_at _ _ _; exact one_one _; exact HBd.out.1; exact HBd.out.2; exact Nat.le_trans HBs.out HBe.out.size; intro v2 w3 ho hg hvo; have HO := Lib.hid (bel_added HN.out HB2.out ho hg hvo); have HBx3 := Lib.hid (HBx2.out.only HV2.out (Only.of_grown hg fun r e => e)); obtain ⟨c2, c0, c1⟩ := HBx3.out.cells; clear ho hg hvo))
        go_ret
        exact ⟨l ++ [f], v2, rfl, HO.out.1, got_end HIn.out HF.out, HO.out.2.1, HO.out.2.2⟩
      · go_wp2_with (first
          | (at_builtin; refine wpList_append_at rfl _ _ 39 rfl base 3 i0 (.int .i64 0) 1 8 Try.underlying39 hi hz0 hz1 hz2 rfl (by decide) _ _ _ rfl HV2.out ⟨wr.heap.size, 0, none⟩ 1 1 [.int .i64 f] rfl rfl ?_ ?_ ?_ ?_ ?_ ?_; exact one_at _ _ _; exact one_one _; exact HBd.out.1; exact HBd.out.2; exact Nat.le_trans HBs.out HBe.out.size; intro v2 w3 ho hg hvo; have HO := Lib.hid (bel_added HN.out HB2.out ho hg hvo); have HBx3 := Lib.hid (HBx2.out.only HV2.out (Only.of_grown hg fun r e => e)); obtain ⟨c2, c0, c1⟩ := HBx3.out.cells; clear ho hg hvo))
        go_ret
        exact ⟨l ++ [f], v2, rfl, HO.out.1, got_end HIn.out HF.out, HO.out.2.1, HO.out.2.2⟩
set_option maxRecDepth 100000 in
set_option maxHeartbeats 3200000 in
theorem bel_node {k : Nat} {x : Nd} {f0 : Int} {l : List Int} {base : Nat} {v : Value} (h : RefA W A c L) (hbase : base ≤ W.heap.size) (hv : W.ownsRow base 3 1 v l.length (l.map (Value.int .i64))) (hfew : l.length ≤ 8001) (hin : (k : Int) ∉ l) (hx : L[k]? = some x) (hre : Reach L f0 (k : Int)) (hnd : l.Nodup) (hal : ∀ r ∈ l, Reach L f0 r) (h2 : BelAt lim L f0 x.2.1) (h3 : BelAt lim L f0 x.2.2) :
    Calls Try.prog 39 #[.agg #[.int .i64 lim, .slice A L.length c], v, .int .i64 (k : Int)] W (RetBel base L (k : Int) l v W) := by
  obtain ⟨x1, x2, x3⟩ := x
  have hkl := get_len hx
  have hgA : ∃ g, A = some ⟨g, 0, none⟩ := by
    obtain ⟨g, hA, -⟩ := h.node hx
    exact ⟨g, hA⟩
  obtain ⟨gA, hgA⟩ := hgA
  have HL2 := Lib.hid (h2 (.low hre hx))
  have HL3 := Lib.hid (h3 (.high hre hx))
  have HX := Lib.hid hx
  have HAd : Hid ((l ++ [(k : Int)]).Nodup ∧ ∀ r ∈ l ++ [(k : Int)], Reach L f0 r) := Lib.hid ⟨nodup_snoc hin hnd, fun r hr => by
    rw [List.mem_append, List.mem_singleton] at hr
    rcases hr with hr | rfl
    · exact hal r hr
    · exact hre⟩
  have HRe := Lib.hid hre
  clear h2 h3 hx hre hnd hal
  subst hgA
  have hcap := h.cap
  have hLfew := h.2
  have hinfo : (Try.prog.info? 3).map (fun i => (i.zero, i.size, i.bytes)) = some (some (.int .i64 0), 1, 8) := by kernel_rfl
  obtain ⟨i0, hi, hz0, hz1, hz2⟩ := info_parts hinfo
  have HI0 := Lib.hid (And.intro hi (And.intro hz0 (And.intro hz1 hz2)))
  obtain ⟨Av, cv, rfl, hI⟩ := irow_of hv
  have hb := (Below.refl W.heap.size W).alloc (Nat.le_refl _) (.cells #[.int .i64 lim, .slice (some ⟨gA, 0, none⟩) L.length c] 27)
  have hk := Blk.new W 27 #[.int .i64 lim, .slice (some ⟨gA, 0, none⟩) L.length c]
  obtain ⟨W1, hW1⟩ : ∃ W1, W.alloc (.cells #[.int .i64 lim, .slice (some ⟨gA, 0, none⟩) L.length c] 27) = W1 := ⟨_, rfl⟩
  rw [hW1] at hb hk
  have HB := Lib.hid hb
  have HBx : Hid (BoxR W.heap.size lim L (some ⟨gA, 0, none⟩) c W1) := Lib.hid ⟨h.below hb, hk⟩
  have HV := Lib.hid (own_below hv hb)
  have HI := Lib.hid (hI.below hb)
  have HIn := Lib.hid hin
  have HBs := Lib.hid (Nat.le_trans hbase hb.size)
  obtain ⟨N, hN⟩ : ∃ N, l.length = N := ⟨_, rfl⟩
  rw [hN] at HV hfew ⊢
  have HN := Lib.hid hN
  have HBd : Hid (N + 1 ≤ maxLen ∧ (N + 1) * 8 ≤ 140737488355328) := Lib.hid (by unfold maxLen; omega)
  clear h hbase hv hI hb hk hin hN hinfo hi hz0 hz1 hz2
  go_enter Try.func39, Try.ntmps39
  go_wp2_with fail
  go_loopg [7] N (fun gk t7 wr => ∃ i : Nat, i + gk = N ∧ t7 = .int .i64 (i : Int) ∧ wr = W1)
  case atStart => exact ⟨0, by omega, rfl, rfl⟩
  case round =>
    rename Nat => g0
    obtain ⟨i, hi, rfl, rfl⟩ := hrel
    have HJ := Lib.hid hi
    clear hi
    by_cases hir : i < N
    · obtain ⟨z, hz⟩ : ∃ z, l[i]? = some z := ⟨_, List.getElem?_eq_getElem (by have := HN.out; omega)⟩
      obtain ⟨g, rfl, hg, q0⟩ := HI.out i z hz
      have hzf : ¬ z = (k : Int) := fun e => HIn.out (e ▸ List.mem_of_getElem? hz)
      clear hz
      have hd : (z == (k : Int)) = false := by simpa using hzf
      clear hzf
      go_wp2_with fail
      have hi := HJ.out
      go_roundg (g0 - 1)
      case measure => omega
      case rel => exact ⟨i + 1, by omega, by simp, rfl⟩
    · have hie : i = N := by have := HJ.out; omega
      subst hie
      obtain ⟨hi, hz0, hz1, hz2⟩ := HI0.out
      have hbx := (Below.refl wr.heap.size wr).alloc (Nat.le_refl _) (.cells #[.int .i64 (k : Int)] 3)
      have HBe := Lib.hid hbx
      have HV2 := Lib.hid (own_below HV.out hbx)
      have HBx2 := Lib.hid (HBx.out.below hbx)
      have HB2 := Lib.hid (HB.out.trans (hbx.mono HB.out.size))
      clear hbx
      go_wp2_with (first
        | (at_builtin; refine wpList_append_at rfl _ _ 39 rfl base 3 i0 (.int .i64 0) 1 8 Try.underlying39 hi hz0 hz1 hz2 rfl (by decide) _ _ _ rfl HV2.out ⟨wr.heap.size, 0, none⟩ 1 1 [.int .i64 (k : Int)] rfl rfl ?_ ?_ ?_ ?_ ?_ ?_; exact one_at _ _ _; exact one_one _; exact HBd.out.1; exact HBd.out.2; exact Nat.le_trans HBs.out HBe.out.size; intro v2 w3 ho hg hvo; have HO := Lib.hid (bel_added HN.out HB2.out ho hg hvo); have HBx3 := Lib.hid (HBx2.out.only HV2.out (Only.of_grown hg fun r e => e)); have hcl := HBx3.out.node HX.out rfl; have HG3 := Lib.hid hg.size; obtain ⟨⟨c2, c3⟩, c0, c1, c4, c5⟩ := hcl; clear ho hg hvo))
      have hdr := (Below.refl w3.heap.size w3).drew
      have HBx4 := Lib.hid (HBx3.out.below hdr)
      have HR4 := Lib.hid (own_below HO.out.1 hdr)
      have HBs4 : Hid (base ≤ w3.drew.heap.size) := Lib.hid (Nat.le_trans (Nat.le_trans HBs.out HBe.out.size) HG3.out)
      have HO4 := Lib.hid (And.intro (HO.out.2.1.then_below hdr) HO.out.2.2)
      have K1 := Lib.hid (HBx4.out.node HX.out rfl)
      clear hdr c0 c1 c2 c3 c4 c5
      go_region_held3 (fun w => (W.heap.size < w.heap.size ∧ gA < w.heap.size) ∧ w.cell? ⟨W.heap.size, 0, none⟩ = some (.int .i64 lim) ∧ w.cell? ⟨W.heap.size, 1, none⟩ = some (.slice (some ⟨gA, 0, none⟩) L.length c) ∧ w.cell? ⟨gA, k * 3 + 1, none⟩ = some (.int .i64 x2) ∧ w.cell? ⟨gA, k * 3 + 2, none⟩ = some (.int .i64 x3))
        (first | (with_reducible exact K1.out))
        (first
          | (go_at_call 39; ((with_reducible refine (HL2.out _ _ _ _ _ _ HBx4.out.ref HBs4.out HR4.out HAd.out.1 HAd.out.2).mono ?_); rintro e w5 ⟨R1, v5, rfl, r5, got1, on1, ow1⟩); have HBx5 := Lib.hid (HBx4.out.only HR4.out on1); have K1 := Lib.hid (HBx5.out.node HX.out rfl); have HR5 := Lib.hid r5; have HG1 := Lib.hid got1; have HBs5 := Lib.hid (Nat.le_trans HBs4.out on1.size); have HAd5 := Lib.hid (And.intro (got1.nodup HAd.out.1) (fun r hr => (got1.come r hr).elim (HAd.out.2 r) fun hr => Reach.trans (.low HRe.out HX.out) hr)); have HO5 := Lib.hid (bel_step HO4.out on1 ow1); clear r5 got1 on1 ow1)
          | (go_at_call 39; ((with_reducible refine (HL3.out _ _ _ _ _ _ HBx5.out.ref HBs5.out HR5.out HAd5.out.1 HAd5.out.2).mono ?_); rintro e w6 ⟨R2, v6, rfl, r6, got2, on2, ow2⟩); have HBx6 := Lib.hid (HBx5.out.only HR5.out on2); have K1 := Lib.hid (HBx6.out.node HX.out rfl); have HR6 := Lib.hid r6; have HG2 := Lib.hid got2; have HO6 := Lib.hid (bel_step HO5.out on2 ow2); clear r6 got2 on2 ow2))
      go_wp2_with fail
      go_ret
      exact ⟨R2, v6, rfl, HR6.out, got_node HX.out HIn.out HG1.out HG2.out, HO6.out.1, HO6.out.2⟩
theorem bel_all (hR : RightL L) (f0 : Int) : ∀ f, BelAt lim L f0 f := by
  have hfew : ∀ (l : List Int) {W : World} {A : Option Addr} {c : Nat}, RefA W A c L → l.Nodup → (∀ r ∈ l, Reach L f0 r) → l.length ≤ 8001 := fun l _ _ _ h hnd hal => by
    have := reach_few hnd hal
    have := h.2
    omega
  refine down hR (fun f hf hre l v base W A c h hbase hv hnd hal => ?_) fun k x hx _ _ h2 h3 hre l v base W A c h hbase hv hnd hal => ?_
  · by_cases hin : f ∈ l
    · exact bel_walk hv (hfew l h hnd hal) hin
    · exact bel_far h hbase hv (hfew l h hnd hal) hin hf
  · by_cases hin : (k : Int) ∈ l
    · exact bel_walk hv (hfew l h hnd hal) hin
    · exact bel_node h hbase hv (hfew l h hnd hal) hin hx hre hnd hal h2 h3
theorem rbel_any (h : RefA W A c L) (hR : RightL L) (f : Int) : Calls Try.prog 39 #[.agg #[.int .i64 lim, .slice A L.length c], .slice none 0 0, .int .i64 f] W (RetMet L f W) := by
  refine (bel_all (lim := lim) hR f f .self [] (.slice none 0 0) W.heap.size W A c h (Nat.le_refl _) (World.ownsRow_nil _ _ _ _) List.nodup_nil (fun _ h => by cases h)).mono ?_
  rintro e w' ⟨R, v', rfl, hr, hg, ho, -⟩
  obtain ⟨hnd, hal⟩ := got_all hg
  have hne := hg.has
  have hfew := reach_few hnd fun r hr => (hal r).1 hr
  have hL := h.2
  obtain ⟨y, R', rfl⟩ : ∃ y R', R = y :: R' := by
    cases R with
    | nil => cases hne
    | cons y R' => exact ⟨y, R', rfl⟩
  obtain ⟨g, cc, rfl⟩ := row_form (n := R'.length) hr
  exact ⟨g, cc, y :: R', rfl, hr, ho.below (Nat.le_refl _) fun i hi => by simp [ownB, Value.ownBlock] at hi, hnd, hal, by omega⟩
end
end Go.Proofs.Ytcolinjgfcjimaa
