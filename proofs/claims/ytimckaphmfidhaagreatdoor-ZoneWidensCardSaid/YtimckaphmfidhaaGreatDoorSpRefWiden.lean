/- The contracts of the document's Narrow and Widen. -/
import Derived.Test.YtimckaphmfidhaaGreatDoorSpRefSteps
import Derived.Deep.QuietTactic
import Derived.BigQuiet
namespace Go.Proofs.YtimckaphmfidhaaGreatDoor.Sp
open Go.RowKit
attribute [local go_sem ↓] Go.wp_at_zero Go.wp_at_succ eq24 eq23 neq24 eqg24 eqg23

theorem Boxes.rdrewN {w wx : World} {a b c d x y : Int} (h : Boxes w wx a b c d x y) (n : Nat) : Boxes w (wx.drewN n) a b c d x y := ⟨h.1, h.2.1, h.2.2.1, below_drewN h.2.2.2 n⟩

/-- Four blocks: both spans, the result's, and the one that is worked on. -/
def Quart (w wx : World) (g : Nat) (a b c d p q : Int) : Prop := Boxes w wx a b c d 0 0 ∧ Box wx g p q ∧ w.heap.size + 1 + 1 < g
theorem Quart.below {w wx w' : World} {g : Nat} {a b c d p q : Int} (h : Quart w wx g a b c d p q) (hb : Below wx.heap.size wx w') : Quart w w' g a b c d p q := ⟨h.1.below hb, h.2.1.below hb, h.2.2⟩
theorem Quart.drewN {w wx : World} {g : Nat} {a b c d p q : Int} (h : Quart w wx g a b c d p q) (n : Nat) : Quart w (wx.drewN n) g a b c d p q := ⟨h.1.rdrewN n, h.2.1, h.2.2⟩
theorem quart_new {w wx : World} {a b c d p q : Int} (h : Boxes w wx a b c d 0 0) (t : Nat) : Quart w (wx.alloc (.cells #[.int .i64 p, .int .i64 q] t)) wx.heap.size a b c d p q := by
  refine ⟨h.below ((Below.refl _ _).alloc (Nat.le_refl _) _), ?_, h.2.2.1.1⟩
  refine ⟨?_, ?_, ?_, ?_, ?_⟩
  all_goals go_simp
theorem Quart.low {w wx : World} {g : Nat} {a b c d p q : Int} (h : Quart w wx g a b c d p q) (v : Int) : Quart w (wx.setCell ⟨g, 0, none⟩ (.int .i64 v)) g a b c d v q := by
  obtain ⟨⟨⟨z0, p0, p1, f0, f1⟩, ⟨z1, q0, q1, g0, g1⟩, ⟨z2, r0, r1, e0, e1⟩, hb⟩, ⟨z3, s0, s1, t0, t1⟩, hg⟩ := h
  have n0 : w.heap.size ≠ g := by omega
  have n1 : w.heap.size + 1 ≠ g := by omega
  have n2 : w.heap.size + 1 + 1 ≠ g := by omega
  have hg' := hg
  refine ⟨⟨⟨?_, ?_, ?_, ?_, ?_⟩, ⟨?_, ?_, ?_, ?_, ?_⟩, ⟨?_, ?_, ?_, ?_, ?_⟩, hb.setCell (by simp; omega) _⟩, ⟨?_, ?_, ?_, ?_, ?_⟩, hg'⟩
  all_goals go_simp
theorem Quart.high {w wx : World} {g : Nat} {a b c d p q : Int} (h : Quart w wx g a b c d p q) (v : Int) : Quart w (wx.setCell ⟨g, 1, none⟩ (.int .i64 v)) g a b c d p v := by
  obtain ⟨⟨⟨z0, p0, p1, f0, f1⟩, ⟨z1, q0, q1, g0, g1⟩, ⟨z2, r0, r1, e0, e1⟩, hb⟩, ⟨z3, s0, s1, t0, t1⟩, hg⟩ := h
  have n0 : w.heap.size ≠ g := by omega
  have n1 : w.heap.size + 1 ≠ g := by omega
  have n2 : w.heap.size + 1 + 1 ≠ g := by omega
  have hg' := hg
  refine ⟨⟨⟨?_, ?_, ?_, ?_, ?_⟩, ⟨?_, ?_, ?_, ?_, ?_⟩, ⟨?_, ?_, ?_, ?_, ?_⟩, hb.setCell (by simp; omega) _⟩, ⟨?_, ?_, ?_, ?_, ?_⟩, hg'⟩
  all_goals go_simp

/-- The same, whatever the fourth block holds. -/
def QuartE (w wx : World) (g : Nat) (a b c d : Int) : Prop := ∃ p q, Quart w wx g a b c d p q
theorem QuartE.below {w W w5 : World} {g : Nat} {a b c d : Int} (hb : Below W.heap.size W w5) (h : QuartE w W g a b c d) : QuartE w w5 g a b c d := by
  obtain ⟨p, q, x⟩ := h
  exact ⟨p, q, x.below hb⟩
theorem QuartE.low {w W : World} {g : Nat} {a b c d : Int} (h : QuartE w W g a b c d) (v : Int) : QuartE w (W.setCell ⟨g, 0, none⟩ (.int .i64 v)) g a b c d := by
  obtain ⟨p, q, x⟩ := h
  exact ⟨_, _, x.low v⟩
theorem QuartE.high {w W : World} {g : Nat} {a b c d : Int} (h : QuartE w W g a b c d) (v : Int) : QuartE w (W.setCell ⟨g, 1, none⟩ (.int .i64 v)) g a b c d := by
  obtain ⟨p, q, x⟩ := h
  exact ⟨_, _, x.high v⟩
theorem QuartE.drewN {w W : World} {g : Nat} {a b c d : Int} (h : QuartE w W g a b c d) (n : Nat) : QuartE w (W.drewN n) g a b c d := by
  obtain ⟨p, q, x⟩ := h
  exact ⟨_, _, x.drewN n⟩
theorem Quart.some {w W : World} {g : Nat} {a b c d p q : Int} (h : Quart w W g a b c d p q) : QuartE w W g a b c d := ⟨p, q, h⟩
theorem qtop (w : World) (n : Nat) : Calls Tryz.prog 122 #[] (w.drewN n) fun e w'' => e = .returned (.int .i64 1152921504606846976) ∧ ∃ m, w'' = w.drewN m := (rtop_any _).mono fun _ _ h => ⟨h.1, n, h.2.symm⟩
theorem qtop2 (w : World) (k n : Nat) : Calls Tryz.prog 122 #[] (w.drewN (k + n)) fun e w'' => e = .returned (.int .i64 1152921504606846976) ∧ ∃ m, w'' = w.drewN (k + m) := (rtop_any _).mono fun _ _ h => ⟨h.1, n, h.2.symm⟩

/-- What the loop over the steps has gathered. -/
def Turned (w2 : World) (f : Nat → Int) (m : Nat) (v i : Value) (wr : World) : Prop :=
  ∃ k : Nat, k ≤ m ∧ i = .int .i64 k ∧ wr.ownsRow w2.heap.size 3 1 v (negs f k).length ((negs f k).map (Value.int .i64)) ∧ Below w2.heap.size w2 wr
theorem news1 (w : World) (p : Int) : ∀ j u, ([.int .i64 p] : List Value)[j]? = some u → (w.alloc (.cells #[.int .i64 p] 3)).cell? ((⟨w.heap.size, 0, none⟩ : Addr).add j) = some u := by
  intro j u hj
  match j, hj with
  | 0, hj => simp at hj; subst hj; go_simp
  | j + 1, hj => simp at hj
theorem one1 (p : Int) : ∀ u ∈ ([.int .i64 p] : List Value), u.oneCell' = true := by
  intro u hu
  simp at hu
  subst hu; rfl
theorem turned_more {w2 wr w4 : World} {f : Nat → Int} {k : Nat} {v v' : Value} {o : Obj} (hb : inB (f k) = true) (hnx : Below w2.heap.size w2 wr) (hown : wr.ownsRow w2.heap.size 3 1 v (negs f k).length ((negs f k).map (Value.int .i64)))
    (hown' : w4.ownsRow w2.heap.size 3 1 v' ((negs f k).length + 1) ((negs f k).map (Value.int .i64) ++ [.int .i64 (-(f k))])) (hgrow : (wr.alloc o).grownBy w4 v.ownBlock) :
    w4.ownsRow w2.heap.size 3 1 v' (negs f (k + 1)).length ((negs f (k + 1)).map (Value.int .i64)) ∧ Below w2.heap.size w2 w4 := by
  refine ⟨?_, (hnx.alloc hnx.size o).grown hgrow (hnx.alloc hnx.size o).size (fun g hg => (hown.lt g hg).1)⟩
  rw [negs_yes hb, List.length_append, List.map_append]
  exact hown'
theorem join_self (a b : Int) : joinL a b a b = tkL a b ∧ joinH a b a b = tkH a b := by
  unfold joinL joinH
  cases h : noneS a b
  · simp only [Bool.false_eq_true, if_false]; omega
  · simp only [if_true, and_self]
/-- What is not in a, has something. -/
theorem some_of_not {a b c d : Int} (h : leqS c d a b = false) : noneS c d = false := by
  cases x : noneS c d
  · rfl
  · have := (leqS_iff c d a b).2 (Or.inl (noneS_yes x)); rw [h] at this; cases this

set_option maxRecDepth 100000 in
set_option maxHeartbeats 3200000 in
theorem rwiden_in (a b c d : Int) (A : Option Addr) (m cap : Nat) (w : World) (hl : leqS c d a b = true) : Calls Tryz.prog 47 #[.agg #[.int .i64 a, .int .i64 b], .agg #[.int .i64 c, .int .i64 d], .slice A m cap] w (RetSpan (tkL a b) (tkH a b) w) := by
  have HX := Lib.hid (rboxes_new w a b c d 0 0)
  go_enter Tryz.func47, Tryz.ntmps47
  go_wp2_with fail
  refine (rleq_any c d a b _).mono ?_
  rintro e w1 ⟨rfl, hb1⟩
  have HX1 := Lib.hid (HX.out.below hb1)
  clear hb1
  obtain ⟨⟨z0, p0, p1, f0, f1⟩, ⟨z1, q0, q1, g0, g1⟩, ⟨z2, r0, r1, e0, e1⟩, -⟩ := HX1.out
  go_wp2_with fail
  refine (rjoin_any a b a b _).mono ?_
  rintro e w2 ⟨rfl, hb2⟩
  have HX2 := Lib.hid (HX1.out.below hb2)
  have EJ := Lib.hid (join_self a b)
  clear hb2 z0 p0 p1 f0 f1 z1 q0 q1 g0 g1 z2 r0 r1 e0 e1
  obtain ⟨⟨z0, p0, p1, f0, f1⟩, ⟨z1, q0, q1, g0, g1⟩, ⟨z2, r0, r1, e0, e1⟩, -⟩ := HX2.out
  go_wp2_with fail
  rw [← EJ.out.1, ← EJ.out.2]
  refine rpost_span ?_ rfl ?_
  · simp [results, Tryz.results47, go_sem, r0, r1]
  exact HX2.out.put_out _ _

set_option maxRecDepth 100000 in
set_option maxHeartbeats 3200000 in
theorem rwiden_none (a b c d : Int) (A : Option Addr) (m cap : Nat) (w : World) (hl : leqS c d a b = false) (hn : noneS a b = true) : Calls Tryz.prog 47 #[.agg #[.int .i64 a, .int .i64 b], .agg #[.int .i64 c, .int .i64 d], .slice A m cap] w (RetSpan c d w) := by
  have HX := Lib.hid (rboxes_new w a b c d 0 0)
  go_enter Tryz.func47, Tryz.ntmps47
  go_wp2_with fail
  refine (rleq_any c d a b _).mono ?_
  rintro e w1 ⟨rfl, hb1⟩
  have HX1 := Lib.hid (HX.out.below hb1)
  clear hb1
  obtain ⟨⟨z0, p0, p1, f0, f1⟩, ⟨z1, q0, q1, g0, g1⟩, ⟨z2, r0, r1, e0, e1⟩, -⟩ := HX1.out
  go_wp2_with fail
  refine (rnone_any a b _).mono ?_
  rintro e w2 ⟨rfl, hb2⟩
  have HX2 := Lib.hid (HX1.out.below hb2)
  clear hb2 z0 p0 p1 f0 f1 z1 q0 q1 g0 g1 z2 r0 r1 e0 e1
  obtain ⟨⟨z0, p0, p1, f0, f1⟩, ⟨z1, q0, q1, g0, g1⟩, ⟨z2, r0, r1, e0, e1⟩, -⟩ := HX2.out
  go_wp2_with fail
  refine rpost_span ?_ rfl ?_
  · simp [results, Tryz.results47, go_sem, r0, r1]
  exact HX2.out.put_out _ _

set_option maxRecDepth 100000 in
set_option maxHeartbeats 6400000 in
theorem rwiden_both (f : Nat → Int) (a b c d : Int) (A : Option Addr) (m cap : Nat) (w : World) (hz : m ≤ 50) (hI : Ints w A m f) (hl : leqS c d a b = false) (hn : noneS a b = false)
    (lo hi : Int) (hlo : (c < a ∧ dnF f c m = lo) ∨ (¬ c < a ∧ a = lo)) (hhi : (b < d ∧ upF f d m = hi) ∨ (¬ b < d ∧ b = hi)) :
    Calls Tryz.prog 47 #[.agg #[.int .i64 a, .int .i64 b], .agg #[.int .i64 c, .int .i64 d], .slice A m cap] w (RetSpan lo hi w) := by
  have HX := Lib.hid (rboxes_new w a b c d 0 0)
  have ec := noneS_no (some_of_not hl)
  have HI := Lib.hid (hI.below HX.out.2.2.2)
  have HU := Lib.hid (up_turned f d (by omega) m)
  have HL := Lib.hid (negs_len f)
  have c1 : c ≤ 1152921504606846976 := by omega
  have d1 : -d ≤ 1152921504606846976 := by omega
  obtain ⟨i0, hi, hi0, hi1, hi2⟩ := info_parts info3
  clear hI
  go_enter Tryz.func47, Tryz.ntmps47
  go_wp2_with fail
  refine (rleq_any c d a b _).mono ?_
  rintro e w1 ⟨rfl, hb1⟩
  have HX1 := Lib.hid (HX.out.below hb1)
  have HI1 := Lib.hid (HI.out.below hb1)
  clear hb1
  obtain ⟨⟨z0, p0, p1, f0, f1⟩, ⟨z1, q0, q1, g0, g1⟩, ⟨z2, r0, r1, e0, e1⟩, -⟩ := HX1.out
  go_wp2_with fail
  refine (rnone_any a b _).mono ?_
  rintro e w2 ⟨rfl, hb2⟩
  have HX2 := Lib.hid (HX1.out.below hb2)
  have HI2 := Lib.hid (HI1.out.below hb2)
  clear hb2 z0 p0 p1 f0 f1 z1 q0 q1 g0 g1 z2 r0 r1 e0 e1
  go_wp2_with fail
  go_loopw [7, 8] (fun v i wr => Turned w2 f m v i wr) (fun _ i _ => m - (intOf i).toNat)
  case atStart => exact ⟨0, Nat.zero_le _, rfl, World.ownsRow_nil _ _ _ _, Below.refl _ _⟩
  case round =>
    obtain ⟨k, hk, rfl, hown, hnx⟩ := hrel
    have HO := Lib.hid hown
    have HN := Lib.hid hnx
    clear hown hnx
    by_cases hlt : k < m
    · obtain ⟨bb, off, rfl, hbl, hcells⟩ := (HI2.out.below HN.out) (by omega)
      have hcell := hcells k hlt
      have hcell' : ∀ o : Obj, (wr.alloc o).cell? ⟨bb, off + k, none⟩ = some (.int .i64 (f k)) := fun o => by rw [(bcell ((Below.refl _ wr).alloc (Nat.le_refl _) o)).1 _ _ hbl]; exact hcell
      have hlen := HL.out k
      clear hcells
      cases hin : inB (f k)
      · have HE := Lib.hid (negs_no hin)
        go_wp2_with (go_at_call 96; refine (rin_any _ _).mono ?_; rintro e w' ⟨rfl, rfl⟩)
        go_roundw
        case rel => exact ⟨k + 1, by omega, by go_num, by rw [HE.out]; exact HO.out, HN.out⟩
        case measure => simp [intOf]; omega
      · have HE := Lib.hid hin
        have hbd := of_inB hin
        go_wp2_with (first
          | (go_at_call 96; refine (rin_any _ _).mono ?_; rintro e w' ⟨rfl, rfl⟩)
          | (at_builtin; refine wpList_append_own _ rfl (.tmp 30) (.tmp 36) 22 rfl w2.heap.size 3 i0 (.int .i64 0) 1 8 Tryz.underlying22 hi hi0 hi1 hi2 rfl (by decide) _ _ _ rfl (HO.out.alloc _) ⟨wr.heap.size, 0, none⟩ 1 1 [.int .i64 (-(f k))] rfl rfl (news1 wr _) (one1 _) (by unfold maxLen; omega) (by omega) (by have := HN.out.size; simp; omega) ?_; intro v' w4 hown' hgrow _; have HO4 := Lib.hid (turned_more HE.out HN.out HO.out hown' hgrow); clear hown' hgrow))
        go_roundw
        case rel => exact ⟨k + 1, by omega, by go_num, HO4.out.1, HO4.out.2⟩
        case measure => simp [intOf]; omega
    · obtain rfl : k = m := by omega
      have HXr := Lib.hid (HX2.out.below HN.out)
      have HIr := Lib.hid (HI2.out.below HN.out)
      have hlen := HL.out k
      have hdn := dnF_bd (atL (negs f k)) (-d) (by omega) (negs f k).length
      have hc0 : -1152921504606846976 ≤ c := by omega
      have hd0 : d ≤ 1152921504606846976 := by omega
      have hd2 : -1152921504606846976 ≤ d := by omega
      obtain ⟨⟨z0, p0, p1, f0, f1⟩, ⟨z1, q0, q1, g0, g1⟩, ⟨z2, r0, r1, e0, e1⟩, -⟩ := HXr.out
      clear HX HX1 HX2 HI HI1 HI2 ec
      rcases hlo with ⟨t1, rfl⟩ | ⟨t1, rfl⟩ <;> rcases hhi with ⟨t2, rfl⟩ | ⟨t2, rfl⟩
      all_goals
        go_wp2_with (first
          | (go_at_call 97; ((with_reducible refine (rlower_any f c A k cap _ c1 (by omega) (HIr.out.below ((Below.refl _ _).alloc (Nat.le_refl _) _))).mono ?_); rintro e w' ⟨rfl, rfl⟩))
          | (go_at_call 97; ((with_reducible refine (rlower_own (negs f k) (-d) d1 (HO.out.alloc _) (by omega)).mono ?_); rintro e w' ⟨rfl, rfl⟩)))
        try rw [← HU.out]
        refine rpost_span ?_ rfl ?_
        · simp [results, Tryz.results47, go_sem, r0, r1, z2]
        exact (HXr.out.put_out _ _).alloc (by have := HXr.out.2.2.2.size; simp; omega) _

theorem rwiden_any (f : Nat → Int) (a b c d : Int) (A : Option Addr) (m cap : Nat) (w : World) (hz : m ≤ 50) (hI : Ints w A m f) :
    Calls Tryz.prog 47 #[.agg #[.int .i64 a, .int .i64 b], .agg #[.int .i64 c, .int .i64 d], .slice A m cap] w (RetSpan (widL f m a b c d) (widH f m a b c d) w) := by
  unfold widL widH
  cases hl : leqS c d a b
  · have ec := noneS_no (some_of_not hl)
    cases hn : noneS a b
    · have ea := noneS_no hn
      simp only [Bool.false_eq_true, if_false]
      refine rwiden_both f a b c d A m cap w hz hI hl hn _ _ ?_ ?_
      · unfold wloZ
        rw [ec.2.2.2.1, ea.2.2.2.1]
        by_cases h : c < a
        · left; exact ⟨h, by rw [if_pos h]⟩
        · right; exact ⟨h, by rw [if_neg h]⟩
      · unfold whiZ
        rw [ec.2.2.2.2.1, ea.2.2.2.2.1]
        by_cases h : b < d
        · left; exact ⟨h, by rw [if_pos h]⟩
        · right; exact ⟨h, by rw [if_neg h]⟩
    · simp only [Bool.false_eq_true, if_false, if_true]
      rw [ec.2.2.2.1, ec.2.2.2.2.1]
      exact rwiden_none a b c d A m cap w hl hn
  · simp only [if_true]
    exact rwiden_in a b c d A m cap w hl
end Go.Proofs.YtimckaphmfidhaaGreatDoor.Sp
