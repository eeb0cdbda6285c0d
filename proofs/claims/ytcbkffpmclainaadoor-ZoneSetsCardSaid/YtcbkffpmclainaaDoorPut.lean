/- The contract of the law's put: a point, with another number in one place. -/
import Derived.Test.YtcbkffpmclainaaDoorRRow
import Derived.Test.YtcbkffpmclainaaDoorRShrink
import Derived.Test.YtcbkffpmclainaaDoorMovesMath
namespace Go.Proofs.YtcbkffpmclainaaDoor
open Go.RowKit
attribute [local go_sem ↓] Go.wp_at_zero Go.wp_at_succ

/-- The numbers, as values. -/
def nums (n : Nat) (f : Nat → Int) : List Value := (List.range n).map fun k => .int .i64 (f k)
theorem nums_at {n k : Nat} (f : Nat → Int) (h : k < n) : (nums n f)[k]? = some (.int .i64 (f k)) := by
  unfold nums
  rw [List.getElem?_map, List.getElem?_range h]
  rfl
theorem nums_len (n : Nat) (f : Nat → Int) : (nums n f).length = n := by unfold nums; simp
theorem nums_one (n : Nat) (f : Nat → Int) : ∀ u ∈ nums n f, u.oneCell' = true := fun u hu => by
  unfold nums at hu
  obtain ⟨x, -, rfl⟩ := List.mem_map.1 hu
  rfl
/-- A point that is read. -/
def PtAt (W : World) (b off n : Nat) (f : Nat → Int) : Prop := b < W.heap.size ∧ ∀ k, k < n → W.cell? ⟨b, off + k, none⟩ = some (.int .i64 (f k))
theorem PtAt.below {W W1 : World} {b off n : Nat} {f : Nat → Int} (h : PtAt W b off n f) (hb : Below W.heap.size W W1) : PtAt W1 b off n f :=
  ⟨Nat.lt_of_lt_of_le h.1 hb.size, fun k hk => (hb.cell (p := ⟨b, off + k, none⟩) h.1).trans (h.2 k hk)⟩
theorem PtAt.row {W : World} {b off n c : Nat} {f : Nat → Int} (h : PtAt W b off n f) : RowAt W (.slice (some ⟨b, off, none⟩) n c) n (nums n f) :=
  .inr ⟨⟨b, off, none⟩, c, rfl, fun j u hj => by
    have hl : j < n := by
      have := (List.getElem?_eq_some_iff.1 hj).1
      rw [nums_len] at this
      exact this
    rw [nums_at f hl] at hj
    injection hj with hj
    subst hj
    rw [Addr.add_lit]
    exact h.2 j hl⟩
theorem ptAt_own {W : World} {base n c g : Nat} {f : Nat → Int} (h : W.ownsRow base 3 1 (.slice (some ⟨g, 0, none⟩) n c) n (nums n f)) : PtAt W g 0 n f :=
  ⟨(h.lt g rfl).2, fun k hk => by
    have := h.cellAt k (by omega)
    rw [Nat.zero_add, this, nums_at f hk]⟩
/-- Another number in one place. -/
def putF (f : Nat → Int) (t : Nat) (x : Int) : Nat → Int := fun k => if k = t then x else f k
theorem vof_put (f : Nat → Int) (t : Nat) (x : Int) : vof (putF f t x) = at1 (vof f) (t + 1) x := by
  funext a
  show (if a = 0 then 0 else if a - 1 = t then x else f (a - 1)) = if a = t + 1 then x else if a = 0 then 0 else f (a - 1)
  by_cases h : a = 0
  · rw [if_pos h, if_neg (by omega), if_pos h]
  · rw [if_neg h]
    by_cases h2 : a = t + 1
    · rw [if_pos (by omega), if_pos h2]
    · rw [if_neg (by omega), if_neg h2, if_neg h]
theorem nums_set {n t : Nat} (f : Nat → Int) (x : Int) : (nums n f).set t (.int .i64 x) = nums n (putF f t x) := by
  apply List.ext_getElem?
  intro k
  rw [List.getElem?_set, nums_len]
  by_cases hk : k < n
  · rw [nums_at (putF f t x) hk]
    by_cases h : t = k
    · subst h
      rw [if_pos rfl, if_pos hk, show putF f t x t = x from if_pos rfl]
    · rw [if_neg h, nums_at _ hk, show putF f t x k = f k from if_neg (fun e => h e.symm)]
  · have h1 : (nums n f)[k]? = none := List.getElem?_eq_none (by rw [nums_len]; omega)
    have h2 : (nums n (putF f t x))[k]? = none := List.getElem?_eq_none (by rw [nums_len]; omega)
    rw [h1, h2]
    split
    · rw [if_neg (by omega)]
    · rfl
/-- A row of n numbers of its own is handed back. -/
def RetRow (w : World) (n : Nat) (f : Nat → Int) (e : Ending) (w' : World) : Prop := ∃ g c, e = .returned (.slice (some ⟨g, 0, none⟩) n c) ∧ w'.ownsRow w.heap.size 3 1 (.slice (some ⟨g, 0, none⟩) n c) n (nums n f) ∧ Below w.heap.size w w'
set_option maxRecDepth 100000 in
set_option maxHeartbeats 3200000 in
theorem put_any {w : World} {b off n c t : Nat} {f : Nat → Int} {x : Int} (hn : n ≤ 20) (ht : t < n) (hp : PtAt w b off n f) :
    Calls Tryd.prog 36 #[.slice (some ⟨b, off, none⟩) n c, .int .i64 ((t + 1 : Nat) : Int), .int .i64 x] w (RetRow w n (putF f t x)) := by
  obtain ⟨i0, hi, hz0, hz1, hz2⟩ := info_parts zinfo3
  have hlit := World.ownsRow_lit (base := w.heap.size) (e := 3) (size := 1) w #[] 0 (by omega) (by unfold maxLen; omega) rfl
  have HLit := Lib.hid hlit
  clear hlit
  have HB3 := Lib.hid (zboxed w (.cells #[] 3))
  have HP := Lib.hid hp
  have HLen : Hid ((nums n f).length = n * 1 ∧ (0 + n ≤ maxLen ∧ (0 + n) * 8 ≤ 140737488355328) ∧ w.heap.size ≤ (w.alloc (.cells #[] 3)).heap.size) := Lib.hid (by rw [nums_len, World.size_alloc]; unfold maxLen; omega)
  have HN := Lib.hid (And.intro hn ht)
  have hw : IntKind.i64.wrap (((t + 1 : Nat) : Int) - 1) = (t : Int) := by rw [show ((t + 1 : Nat) : Int) - 1 = (t : Int) by omega]; exact IntWalk.i64_in _ (by omega)
  have ht1 : (t : Int) < (n : Int) := by omega
  obtain ⟨T, hT⟩ : ∃ T : Int, ((t + 1 : Nat) : Int) = T := ⟨_, rfl⟩
  rw [hT] at hw ⊢
  clear hT hp hn
  go_enter Tryd.func36, Tryd.ntmps36
  go_wp2_with (first
    | (at_builtin; refine wpList_append_rows rfl _ _ 22 rfl w.heap.size 3 i0 (.int .i64 0) 1 8 Tryd.underlying22 hi hz0 hz1 hz2 rfl (by decide) _ _ _ rfl HLit.out _ n (nums n f) rfl (PtAt.row (HP.out.below HB3.out)) HLen.out.1 (nums_one _ _) HLen.out.2.1.1 HLen.out.2.1.2 HLen.out.2.2 ?_; intro v4 w4 ho hg hv; (rw [Nat.zero_add, List.nil_append] at ho); obtain ⟨gr, cr, hv4, hcr⟩ := row_pos ho (Nat.lt_of_le_of_lt (Nat.zero_le _) HN.out.2); subst hv4; have HO := Lib.hid ho; have HG := Lib.hid hg; have y0 := (ho.cellAt t (by have := HN.out.2; omega)).trans (nums_at f HN.out.2); have y1 := ho.frozenAt t; have y2 := (ho.lt gr rfl).2; clear ho hg hv))
  go_ret
  obtain ⟨hs, hg2⟩ := HO.out.stored t (.int .i64 x)
  rw [nums_set] at hs
  have hb4 : Below w.heap.size w w4 := HB3.out.grown HG.out HB3.out.size (fun k hk => by have hk : some w.heap.size = some k := hk; injection hk with hk; omega)
  exact ⟨gr, cr, rfl, hs, hb4.setCell (p := ⟨gr, t, none⟩) ((HO.out.lt gr rfl).1) _⟩
end Go.Proofs.YtcbkffpmclainaaDoor
