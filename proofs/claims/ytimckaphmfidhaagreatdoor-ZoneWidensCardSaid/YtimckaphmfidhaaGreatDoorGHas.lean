/- Put together of: Index, Has, HasMore, HasNil, Back. -/
import Derived.Test.YtimckaphmfidhaaGreatDoorGSmall
import Derived.Deep.LoopGhost
import Derived.IntWalk
/- The contracts of slices.IndexFunc and ContainsFunc, with the function that Has hands them. -/
namespace Go.Proofs.YtimckaphmfidhaaGreatDoor
open Go.RowKit
attribute [local go_sem ↓] Go.wp_at_zero Go.wp_at_succ

def outB (n : Int) : Bool := !(decide (-1152921504606846976 ≤ n) && decide (n ≤ 1152921504606846976))
set_option maxRecDepth 100000 in
theorem out_any (n : Int) (w : World) : Calls Tryz.prog 83 #[.int .i64 n] w (RetB w (outB n)) := by
  unfold outB
  have hin : Calls Tryz.prog 84 #[.int .i64 n] w fun e w' => e = .returned (.bool (decide (-1152921504606846976 ≤ n) && decide (n ≤ 1152921504606846976))) ∧ w' = w := by
    cases h0 : decide (-1152921504606846976 ≤ n)
    · go_enter Tryz.func84, Tryz.ntmps84
      go_wp2_with fail
      go_ret
      exact ⟨rfl, rfl⟩
    · cases h1 : decide (n ≤ 1152921504606846976)
      · go_enter Tryz.func84, Tryz.ntmps84
        go_wp2_with fail
        go_ret
        exact ⟨rfl, rfl⟩
      · go_enter Tryz.func84, Tryz.ntmps84
        go_wp2_with fail
        go_ret
        exact ⟨rfl, rfl⟩
  generalize (decide (-1152921504606846976 ≤ n) && decide (n ≤ 1152921504606846976)) = b at *
  go_enter Tryz.func83, Tryz.ntmps83
  go_wp2_with (go_at_call 84; ((with_reducible refine hin.mono ?_); rintro e w' ⟨rfl, rfl⟩))
  go_ret
  exact ⟨rfl, Below.refl _ _⟩

def anyOut (n : Nat) (f : Nat → Int) : Bool := (List.range n).any fun k => outB (f k)
theorem anyOut_no {n : Nat} {f : Nat → Int} (h : ∀ k, k < n → outB (f k) = false) : anyOut n f = false := by
  unfold anyOut
  rw [List.any_eq_false]
  intro k hk
  rw [h k (List.mem_range.1 hk)]
  exact Bool.false_ne_true
theorem anyOut_yes {n k : Nat} {f : Nat → Int} (hk : k < n) (h : outB (f k) = true) : anyOut n f = true := by
  unfold anyOut
  rw [List.any_eq_true]
  exact ⟨k, List.mem_range.2 hk, h⟩
def RetAt (w : World) (any : Bool) (e : Ending) (w' : World) : Prop := (∃ r : Int, e = .returned (.int .i64 r) ∧ decide (0 ≤ r) = any) ∧ Below w.heap.size w w'
set_option maxRecDepth 100000 in
set_option maxHeartbeats 1600000 in
theorem index_any (b off n cap : Nat) (f : Nat → Int) (w : World) (hn : n ≤ 100) (hb : b < w.heap.size) (hc : ∀ k, k < n → w.cell? ⟨b, off + k, none⟩ = some (.int .i64 (f k))) :
    Calls Tryz.prog 119 #[.slice (some ⟨b, off, none⟩) n cap, .func (.func 83) #[] #[]] w (RetAt w (anyOut n f)) := by
  go_enter Tryz.func119, Tryz.ntmps119
  go_wp2_with fail
  go_loopg [8] n (fun g s8 wr => ∃ k : Nat, k ≤ n ∧ n - k ≤ g ∧ s8 = .int .i64 k ∧ Below w.heap.size w wr ∧ ∀ j, j < k → outB (f j) = false)
  case atStart => exact ⟨0, Nat.zero_le _, by omega, rfl, Below.refl _ _, fun j hj => absurd hj (Nat.not_lt_zero _)⟩
  case round =>
    obtain ⟨k, hk, hg, rfl, hB, hno⟩ := hrel
    by_cases hlt : k < n
    · have hck := (hB.cell (p := ⟨b, off + k, none⟩) hb).trans (hc k hlt)
      have HNo := Lib.hid hno
      have HB := Lib.hid hB
      clear hno hB hc
      cases ho : outB (f k)
      · have HO := Lib.hid ho
        generalize f k = x at hck ho
        go_wp2_with (go_at_call 83; ((with_reducible refine (out_any _ _).mono ?_); rintro e w1 ⟨rfl, hb1⟩))
        go_roundg (n - (k + 1))
        case measure => omega
        case rel =>
          refine ⟨k + 1, by omega, by omega, by go_num, HB.out.trans (hb1.mono HB.out.size), fun j hj => ?_⟩
          by_cases e : j = k
          · subst e; exact HO.out
          · exact HNo.out j (by omega)
      · have HO := Lib.hid (anyOut_yes hlt ho)
        rw [HO.out]
        generalize f k = x at hck ho
        go_wp2_with (go_at_call 83; ((with_reducible refine (out_any _ _).mono ?_); rintro e w1 ⟨rfl, hb1⟩))
        go_ret
        exact ⟨⟨_, rfl, decide_eq_true (by omega)⟩, HB.out.trans (hb1.mono HB.out.size)⟩
    · obtain rfl : k = n := by omega
      have HE := Lib.hid (anyOut_no hno)
      clear hc hno
      go_wp2_with fail
      go_ret
      exact ⟨⟨_, rfl, by rw [HE.out]; rfl⟩, hB⟩
set_option maxRecDepth 100000 in
set_option maxHeartbeats 1600000 in
theorem contains_any (b off n cap : Nat) (f : Nat → Int) (w : World) (hn : n ≤ 100) (hb : b < w.heap.size) (hc : ∀ k, k < n → w.cell? ⟨b, off + k, none⟩ = some (.int .i64 (f k))) :
    Calls Tryz.prog 82 #[.slice (some ⟨b, off, none⟩) n cap, .func (.func 83) #[] #[]] w (RetB w (anyOut n f)) := by
  have HI := Lib.hid (index_any b off n cap f w hn hb hc)
  generalize anyOut n f = x at *
  clear hc
  go_enter Tryz.func82, Tryz.ntmps82
  go_wp2_with (go_at_call 119; ((with_reducible refine HI.out.mono ?_); rintro e w1 ⟨⟨r, rfl, rfl⟩, hb1⟩))
  go_ret
  exact ⟨rfl, hb1⟩
end Go.Proofs.YtimckaphmfidhaaGreatDoor

/- The contract of Has: any zone, any numbers. -/
namespace Go.Proofs.YtimckaphmfidhaaGreatDoor
open Go.RowKit Go.Shelf
attribute [local go_sem] Oper.semAt_some
attribute [local go_sem ↓] Go.wp_at_zero Go.wp_at_succ

/-- What variable i is at a point. -/
def vof (f : Nat → Int) (i : Nat) : Int := if i = 0 then 0 else f (i - 1)
set_option maxRecDepth 100000 in
theorem value_any (b off n cap i : Nat) (f : Nat → Int) (w : World) (hn : n ≤ 100) (hi : i ≤ n) (hc : ∀ k, k < n → w.cell? ⟨b, off + k, none⟩ = some (.int .i64 (f k))) :
    Calls Tryz.prog 85 #[.slice (some ⟨b, off, none⟩) n cap, .int .i64 (i : Int)] w fun e w' => e = .returned (.int .i64 (vof f i)) ∧ w' = w := by
  unfold vof
  by_cases h : i = 0
  · subst h
    rw [if_pos rfl]
    clear hc
    go_enter Tryz.func85, Tryz.ntmps85
    go_wp2_with fail
    go_ret
    exact ⟨rfl, rfl⟩
  · rw [if_neg h]
    obtain ⟨k, rfl⟩ : ∃ k, i = k + 1 := ⟨i - 1, by omega⟩
    have hk : k < n := by omega
    have hck := hc k hk
    have e : k + 1 - 1 = k := by omega
    rw [e]
    have h1 : decide (((k + 1 : Nat) : Int) = 0) = false := decide_eq_false (by omega)
    have h2 : (((k + 1 : Nat) : Int)) - 1 = k := by omega
    generalize f k = x at hck
    clear hc e h
    go_enter Tryz.func85, Tryz.ntmps85
    go_wp2_with fail
    go_ret
    exact ⟨rfl, rfl⟩

/-- The zone's box, the row's, and the result's. -/
def Hs (w W : World) (a a' p r : Value) : Prop := Duo W w.heap.size 28 a a' ∧ Boxed W (w.heap.size + 1) 22 p ∧ Boxed W (w.heap.size + 1 + 1) 4 r ∧ Below w.heap.size w W
theorem Hs.below {w W W1 : World} {a a' p r : Value} (h : Hs w W a a' p r) (hb : Below W.heap.size W W1) : Hs w W1 a a' p r := ⟨h.1.below hb, boxed_below h.2.1 hb, boxed_below h.2.2.1 hb, h.2.2.2.trans (hb.mono h.2.2.2.size)⟩
theorem Hs.drew {w W : World} {a a' p r : Value} (h : Hs w W a a' p r) : Hs w W.drew a a' p r := ⟨h.1, h.2.1, h.2.2.1, h.2.2.2.drew⟩
theorem Hs.set {w W : World} {a a' p r : Value} (h : Hs w W a a' p r) (x x' : Value) : Hs w ((W.setCell ⟨w.heap.size, 0, none⟩ x).setCell ⟨w.heap.size, 1, none⟩ x') x x' p r :=
  ⟨(h.1.set0 x).set1 x', boxed_other (boxed_other h.2.1 (by simp) _) (by simp) _, boxed_other (boxed_other h.2.2.1 (by simp <;> omega) _) (by simp <;> omega) _, (h.2.2.2.setCell (p := ⟨w.heap.size, 0, none⟩) (by simp) _).setCell (p := ⟨w.heap.size, 1, none⟩) (by simp) _⟩
theorem hs_new (w : World) (a a' p r : Value) : Hs w (((w.alloc (.cells #[a, a'] 28)).alloc (.cells #[p] 22)).alloc (.cells #[r] 4)) a a' p r := by
  have h1 := Boxed.new (w.alloc (.cells #[a, a'] 28)) 22 p
  have h2 := Boxed.new ((w.alloc (.cells #[a, a'] 28)).alloc (.cells #[p] 22)) 4 r
  simp only [World.size_alloc] at h1 h2
  exact ⟨((Duo.new w _ _ _).alloc _).alloc _, h1.alloc _, h2, (((Below.refl _ w).alloc (Nat.le_refl _) _).alloc (by simp) _).alloc (by simp; omega) _⟩

theorem vof_bd {n i : Nat} {f : Nat → Int} (h : anyOut n f = false) (hi : i ≤ n) : -1152921504606846976 ≤ vof f i ∧ vof f i ≤ 1152921504606846976 := by
  unfold vof
  by_cases e : i = 0
  · rw [if_pos e]; omega
  · rw [if_neg e]
    unfold anyOut at h
    rw [List.any_eq_false] at h
    have := h (i - 1) (List.mem_range.2 (by omega))
    unfold outB at this
    simp at this
    omega
/-- With the row of the bounds. -/
def Hz (w : World) (base m g c : Nat) (C : Mat) (p r : Value) (W : World) : Prop := Hs w W (.int .i64 ((m : Int) - 1)) (.slice (some ⟨g, 0, none⟩) (m * m) c) p r ∧ W.ownsRow base 3 1 (.slice (some ⟨g, 0, none⟩) (m * m) c) (m * m) ((flatL m C).map (Value.int .i64))
theorem Hz.below {w W W1 : World} {base m g c : Nat} {C : Mat} {p r : Value} (h : Hz w base m g c C p r W) (hb : Below W.heap.size W W1) : Hz w base m g c C p r W1 := ⟨h.1.below hb, own_kept_below h.2 hb⟩
theorem Hz.drew {w W : World} {base m g c : Nat} {C : Mat} {p r : Value} (h : Hz w base m g c C p r W) : Hz w base m g c C p r W.drew := ⟨h.1.drew, h.2⟩
theorem Hz.cells {w W : World} {base m g c : Nat} {C : Mat} {p r : Value} (h : Hz w base m g c C p r W) : W.cell? ⟨w.heap.size + 1, 0, none⟩ = some p ∧ W.cell? ⟨w.heap.size, 0, none⟩ = some (.int .i64 ((m : Int) - 1)) ∧ W.cell? ⟨w.heap.size, 1, none⟩ = some (.slice (some ⟨g, 0, none⟩) (m * m) c) := ⟨h.1.2.1.cell, h.1.1.cell0, h.1.1.cell1⟩
theorem hs_own {α : Type} {w : World} {a a' p r : Value} (B : Nat) (hB : w.heap.size ≤ B) : OwnFrom B (fun (_ : α) W => Hs w W a a' p r) := by
  intro s X Y row h hg hr
  have hr' : ∀ r, row = some r → ∃ o : Obj, X.heap[r]? = some o ∧ o.isCells = false := fun r e => (hr r e).2
  exact ⟨cells_own h.1 hg hr', cells_own h.2.1 hg hr', cells_own h.2.2.1 hg hr', h.2.2.2.grown hg h.2.2.2.size (fun r e => Nat.le_trans hB (hr r e).1)⟩
theorem hz_own {α : Type} {w : World} {base m g c : Nat} {C : Mat} {p r : Value} (B : Nat) (hB : w.heap.size ≤ B) : OwnFrom B (fun (_ : α) W => Hz w base m g c C p r W) := by
  intro s X Y row h hg hr
  exact ⟨hs_own (α := α) B hB s X Y row h.1 hg hr, row_own h.2 hg (fun r e => (hr r e).2)⟩
/-- It was found that a bound is broken. -/
def Broken (ok : Bool) (w : World) (a a' p : Value) (c : Code) (W : World) : Prop := c = .ret ∧ ok = false ∧ Hs w W a a' p (.bool false)
theorem broken_own {α : Type} (ok : Bool) (w : World) (a a' p : Value) (B : Nat) (hB : w.heap.size ≤ B) (c : Code) : OwnFrom B (fun (_ : α) W => Broken ok w a a' p c W) := by
  intro s X Y row h hg hr
  exact ⟨h.1, h.2.1, hs_own (α := α) B hB s X Y row h.2.2 hg hr⟩
theorem has_leaves {w W : World} {r : Bool} {Ds : List Nat} {tmps : Array Value} (hcW : w.heap.size + 1 + 1 + 1 ≤ W.heap.size) (hM : Marks (w.heap.size + 1 + 1 + 1) Ds W) (hR : Boxed W (w.heap.size + 1 + 1) 4 (.bool r)) (hG : Below w.heap.size w W)
    (ht : tmps.getD 4 undef = .pointer (some ⟨w.heap.size + 1 + 1, 0, none⟩)) : LeavesInM Fence.wide 3 Tryz.prog Tryz.f33 tmps (RetB w r) (Ds.map mark) .returning W := by
  refine leaves_marks (B := w.heap.size + 1 + 1 + 1) Ds W hcW hM (fun W' hb => ?_)
  have hR' : Boxed W' (w.heap.size + 1 + 1) 4 (.bool r) := (hb.block _ (by omega)).trans hR
  have r0 := hR'.cell
  simp at ht
  refine ⟨.bool r, ?_, rfl, hG.trans (hb.mono (by omega))⟩
  simp [results, Tryz.results33, go_sem, ht, r0]

set_option maxRecDepth 100000 in
set_option maxHeartbeats 3200000 in
theorem has_pts {w : World} {N : Int} {Az : Option Addr} {lz cz m b off n cap : Nat} {f : Nat → Int} {C : Mat} (h0 : 0 < m) (h7 : m ≤ 7) (hn : n ≤ 100) (hb : b < w.heap.size) (hc : ∀ k, k < n → w.cell? ⟨b, off + k, none⟩ = some (.int .i64 (f k))) (hlen : n + 1 = m) (hin : anyOut n f = false)
    (K : ∀ W, Below w.heap.size w W → Calls Tryz.prog 70 #[zoneV N Az lz cz] W (RetC W m (some C))) :
    Calls Tryz.prog 33 #[zoneV N Az lz cz, .slice (some ⟨b, off, none⟩) n cap] w (RetB w (leB m (pmat (vof f)) C)) := by
  have HT := Lib.hid (hs_new w (.int .i64 N) (.slice Az lz cz) (.slice (some ⟨b, off, none⟩) n cap) (.bool false))
  have HB := Lib.hid HT.out.2.2.2
  have HK := Lib.hid K
  have HCon := Lib.hid (fun (X : World) (hX : Below w.heap.size w X) => contains_any b off n cap f X hn (Nat.lt_of_lt_of_le hb hX.size) (fun k hk => (hX.cell (p := ⟨b, off + k, none⟩) hb).trans (hc k hk)))
  have HVal := Lib.hid (fun (X : World) (hX : Below w.heap.size w X) (i : Nat) (hi : i ≤ n) => value_any b off n cap i f X hn hi (fun k hk => (hX.cell (p := ⟨b, off + k, none⟩) hb).trans (hc k hk)))
  have HIn := Lib.hid hin
  have e1 : rlen m (some C) = m * m := rfl
  have e2 := sq_pos h0
  have e3 : ((n : Int) == (m : Int) - 1) = true := by simp; omega
  have e4 : ((n : Int) != (m : Int) - 1) = false := by simp; omega
  have e5 : decide ((n : Int) = (m : Int) - 1) = true := decide_eq_true (by omega)
  rw [HIn.out] at HCon
  clear K hc hin
  refine (callsIn_wide (n := 3)).1 ?_
  refine callsIn_of_wp_marks Tryz.func33 rfl trivial ?_ rfl
  simp only [Tryz.ntmps33, List.size_toArray, List.length_cons, List.length_nil, Nat.reduceAdd, Nat.reduceSub, Array.replicate_succ, Array.replicate_zero, List.push_toArray, List.append_toArray, List.nil_append, List.cons_append]
  refine wpIn_wide.2 ?_
  go_wp2_with (first
    | (go_at_call 70; ((with_reducible refine (HK.out _ HB.out).mono ?_); rintro e w1 ⟨A, c1, rfl, hz1, hb1⟩); have hF1 : Hs w w1 _ _ _ _ := Hs.below HT.out hb1; have y0 := hF1.1.cell0; have y1 := hF1.1.cell1; have y4 := hF1.1.frozen0; have y5 := hF1.1.frozen1)
    | (go_at_call 37; ((with_reducible refine (none_any _ _ _ _ _).mono ?_); rintro e w3 ⟨rfl, hb3⟩); have hF2 := (hF1.set (.int .i64 ((m : Int) - 1)) (.slice A (m * m) c1)).below hb3; have hZ2 := ((hz1.setCell (a := ⟨w.heap.size, 0, none⟩) (by simp; omega) (.int .i64 ((m : Int) - 1))).setCell (a := ⟨w.heap.size, 1, none⟩) (by simp; omega) (.slice A (m * m) c1)).below hb3; have p0 := hF2.1.cell0; have p1 := hF2.1.cell1; have p2 := hF2.2.1.cell; have HB2 := Lib.hid hF2.2.2.2)
    | (go_at_call 82; ((with_reducible refine (HCon.out _ HB2.out).mono ?_); rintro e w4 ⟨rfl, hb4⟩); have hF3 := hF2.below hb4; have hZ3 := hZ2.below hb4; have q0 := hF3.1.cell0; have q1 := hF3.1.cell1; have q2 := hF3.2.1.cell)
    | (go_at_call 79; ((with_reducible refine (cells_any _ _).mono ?_); rintro e w5 ⟨rfl, rfl⟩)))
  obtain ⟨g, rfl, hC, o⟩ := zres_some hZ3
  have hz3 := (Hz.below ⟨hF3, o⟩ (zboxed w4 (.cells #[.int .i64 ((m : Int) - 1)] 3)))
  obtain ⟨BB, hBB⟩ : ∃ BB, BB = (((w.alloc (.cells #[.int .i64 N, .slice Az lz cz] 28)).alloc (.cells #[.slice (some ⟨b, off, none⟩) n cap] 22)).alloc (.cells #[.bool false] 4)).heap.size := ⟨_, rfl⟩
  rw [← hBB] at hz3
  have HI0 := Lib.hid hz3
  have hs4 := hF3.2.2.1.lt
  have hw4 := hF3.2.2.2.size
  have hcb := Boxed.new w4 3 (.int .i64 ((m : Int) - 1))
  clear y0 y1 y4 y5 p0 p1 p2 q0 q1 q2 hF1 hF2 hF3 hZ2 hZ3 hb1 hb3 hb4 hz1 o hC hz3 hBB
  refine (wpIn_wide (n := 3)).1 ?_
  refine wpIn_rangeFunc_ownG rfl (by omega) (gf := 114) (lb := #[.pointer (some ⟨w4.heap.size, 0, none⟩)]) rfl trivial (enters_of Tryz.func114 (by kernel_rfl) rfl)
    (cells_stops Fence.wide 2 trivial rfl (by omega) (w4.heap.size) m h7 h0 _ (by simp) hcb.cell) cellKept_t (cellKept_b (by simp)) (Below.refl _ _) (fun _ => rfl)
    (fun pre W => Hz w BB m g c1 C (.slice (some ⟨b, off, none⟩) n cap) (.bool false) W ∧ FitTo (gap (pmat (vof f)) C) pre ∧ w4.heap.size < W.heap.size)
    (fun c _ W => Broken (leB m (pmat (vof f)) C) w (.int .i64 ((m : Int) - 1)) (.slice (some ⟨g, 0, none⟩) (m * m) c1) (.slice (some ⟨b, off, none⟩) n cap) c W)
    (OwnFrom.and (hz_own _ (by simp; omega)) (fun _ _ _ _ h hg _ => ⟨h.1, Nat.lt_of_lt_of_le h.2 hg.size⟩)) (broken_own (leB m (pmat (vof f)) C) w _ _ _ _ (by simp; omega)) ⟨HI0.out, fitTo_nil _, by simp⟩
    (fun x => { tmps := #[zoneV N Az lz cz, .slice (some ⟨b, off, none⟩) n cap, .pointer (some ⟨w.heap.size, 0, none⟩), .pointer (some ⟨w.heap.size + 1, 0, none⟩), .pointer (some ⟨w.heap.size + 1 + 1, 0, none⟩), .int .i64 (x.1.1 : Int), .int .i64 (x.1.2 : Int), .agg #[.int .i64 N, .slice Az lz cz], zoneV ((m : Int) - 1) (some ⟨g, 0, none⟩) (m * m) c1, .agg #[.int .i64 ((m : Int) - 1), .slice (some ⟨g, 0, none⟩) (m * m) c1], .bool false, .bool false, .slice (some ⟨b, off, none⟩) n cap, .int .i64 n, .pointer (some ⟨w.heap.size, 0, none⟩), .int .i64 ((m : Int) - 1), .bool false, .bool false, .slice (some ⟨b, off, none⟩) n cap, .bool false, .pointer (some ⟨w.heap.size, 0, none⟩), .int .i64 ((m : Int) - 1), .func (.func 114) #[] #[.pointer (some ⟨w4.heap.size, 0, none⟩)], .int .i64 (x.1.1 : Int), .int .i64 (x.1.2 : Int), undef, undef, undef, undef, undef, undef, undef, undef, undef, undef, undef, undef], defers := [] }) ?assign ?body ?done ?stop
  case assign =>
    intro l x W K hK
    gi_wp2
    exact hK
  case body =>
    rintro l pre ⟨⟨i, j⟩, hi, hj⟩ W ⟨hS, hFt, hcW⟩ hlen2
    dsimp only at hi hj ⊢
    obtain ⟨B0, hB0⟩ : ∃ B0, B0 = (w4.alloc (.cells #[.int .i64 ((m : Int) - 1)] 3)).heap.size := ⟨_, rfl⟩
    have bi := vof_bd HIn.out (show i ≤ n by omega)
    have bj := vof_bd HIn.out (show j ≤ n by omega)
    have hw : IntKind.i64.wrap (vof f i - vof f j) = vof f i - vof f j := IntWalk.i64_in _ (by omega)
    have HV1 := Lib.hid (HVal.out _ hS.drew.1.2.2.2 i (by omega))
    have HV2 := Lib.hid (HVal.out _ hS.drew.1.2.2.2 j (by omega))
    have HA := Lib.hid (at_own h7 hi hj hS.drew.2)
    gi_wp2
    refine wpIn_held (S := (fun W' => W'.cell? ⟨w.heap.size + 1, 0, none⟩ = some (.slice (some ⟨b, off, none⟩) n cap) ∧ W'.cell? ⟨w.heap.size, 0, none⟩ = some (.int .i64 ((m : Int) - 1)) ∧ W'.cell? ⟨w.heap.size, 1, none⟩ = some (.slice (some ⟨g, 0, none⟩) (m * m) c1))) (by kernel_rfl) (by kernel_rfl) (by rintro ⟨_, _, h⟩; exact h) hS.cells (fun hH0 => ?_)
    simp only [List.size_toArray, List.length_cons, List.length_nil, Nat.reduceAdd, Array.replicate_succ, Array.replicate_zero, List.push_toArray, List.nil_append, List.cons_append]
    refine wpAnyH_take (i := 0) (oi := ⟨some 25, _, _, _, _, _⟩) (v := ?_) rfl (by kernel_rfl) (by kernel_rfl) (by kernel_rfl) (fun _ _ _ h => h) (Or.inl ⟨by rfl, ?_⟩) hH0 ?_
    rotate_left
    · intro w hSw
      try dsimp only at hSw
      go_simp
      try with_reducible rfl
    try simp only [Act.put, List.setIfInBounds_toArray, List.set_cons_zero, List.set_cons_succ]
    refine wpAnyH_take (i := 1) (oi := ⟨some 26, _, _, _, _, _⟩) (v := ?_) rfl (by kernel_rfl) (by kernel_rfl) (by kernel_rfl) (fun _ _ _ h => h) (Or.inl ⟨by rfl, ?_⟩) hH0 ?_
    rotate_left
    · intro w hSw
      try dsimp only at hSw
      go_simp
      try with_reducible rfl
    try simp only [Act.put, List.setIfInBounds_toArray, List.set_cons_zero, List.set_cons_succ]
    refine wpAnyH_take (i := 3) (oi := ⟨some 28, _, _, _, _, _⟩) (v := ?_) rfl (by kernel_rfl) (by kernel_rfl) (by kernel_rfl) (fun _ _ _ h => h) (Or.inl ⟨by rfl, ?_⟩) hH0 ?_
    rotate_left
    · intro w hSw
      try dsimp only at hSw
      go_simp
      try with_reducible rfl
    try simp only [Act.put, List.setIfInBounds_toArray, List.set_cons_zero, List.set_cons_succ]
    refine wpAnyH_take (i := 4) (oi := ⟨some 29, _, _, _, _, _⟩) (v := ?_) rfl (by kernel_rfl) (by kernel_rfl) (by kernel_rfl) (fun _ _ _ h => h) (Or.inl ⟨by rfl, ?_⟩) hH0 ?_
    rotate_left
    · intro w hSw
      try dsimp only at hSw
      go_simp
      try with_reducible rfl
    try simp only [Act.put, List.setIfInBounds_toArray, List.set_cons_zero, List.set_cons_succ]
    refine wpAnyH_take (i := 7) (oi := ⟨some 32, _, _, _, _, _⟩) (v := ?_) rfl (by kernel_rfl) (by kernel_rfl) (by kernel_rfl) (fun _ _ _ h => h) (Or.inl ⟨by rfl, ?_⟩) hH0 ?_
    rotate_left
    · intro w hSw
      try dsimp only at hSw
      go_simp
      try with_reducible rfl
    try simp only [Act.put, List.setIfInBounds_toArray, List.set_cons_zero, List.set_cons_succ]
    refine wpAnyH_take (i := 8) (oi := ⟨some 33, _, _, _, _, _⟩) (v := ?_) rfl (by kernel_rfl) (by kernel_rfl) (by kernel_rfl) (fun _ _ _ h => h) (Or.inl ⟨by rfl, ?_⟩) hH0 ?_
    rotate_left
    · intro w hSw
      try dsimp only at hSw
      go_simp
      try with_reducible rfl
    try simp only [Act.put, List.setIfInBounds_toArray, List.set_cons_zero, List.set_cons_succ]
    refine wpAnyH_take (i := 9) (oi := ⟨some 34, _, _, _, _, _⟩) (v := ?_) rfl (by kernel_rfl) (by kernel_rfl) (by kernel_rfl) (fun _ _ _ h => h) (Or.inl ⟨by rfl, ?_⟩) hH0 ?_
    rotate_left
    · intro w hSw
      try dsimp only at hSw
      go_simp
      try with_reducible rfl
    try simp only [Act.put, List.setIfInBounds_toArray, List.set_cons_zero, List.set_cons_succ]
    refine wpAnyH_ready (rs := [2]) (by kernel_rfl) (by simp) ?_
    refine (AllReadyH.cons (o := ⟨some 27, _, _, _, _, _⟩) rfl (fun K hK => ?_) AllReadyH.nil)
    go_simp
    refine HV1.out.mono ?_
    rintro e w' ⟨rfl, rfl⟩
    go_wp2_with fail
    refine hK.out _ _ hS.drew.cells (fun hH1 => ?_)
    clear hK K
    try simp only [List.setIfInBounds_toArray, List.set_cons_zero, List.set_cons_succ]
    refine wpAnyH_ready (rs := [5]) (by kernel_rfl) (by simp) ?_
    refine (AllReadyH.cons (o := ⟨some 30, _, _, _, _, _⟩) rfl (fun K hK => ?_) AllReadyH.nil)
    go_simp
    refine HV2.out.mono ?_
    rintro e w' ⟨rfl, rfl⟩
    go_wp2_with fail
    refine hK.out _ _ hS.drew.cells (fun hH2 => ?_)
    clear hK K
    try simp only [List.setIfInBounds_toArray, List.set_cons_zero, List.set_cons_succ]
    refine wpAnyH_take (i := 6) (oi := ⟨some 31, _, _, _, _, _⟩) (v := ?_) rfl (by kernel_rfl) (by kernel_rfl) (by kernel_rfl) (fun _ _ _ h => h) (Or.inl ⟨by rfl, ?_⟩) hH2 ?_
    rotate_left
    · intro w hSw
      try dsimp only at hSw
      go_simp
      try with_reducible rfl
    try simp only [Act.put, List.setIfInBounds_toArray, List.set_cons_zero, List.set_cons_succ]
    refine wpAnyH_ready (rs := [10]) (by kernel_rfl) (by simp) ?_
    refine (AllReadyH.cons (o := ⟨some 35, _, _, _, _, _⟩) rfl (fun K hK => ?_) AllReadyH.nil)
    go_simp
    refine HA.out.mono ?_
    rintro e W2 ⟨rfl, hb2⟩
    have hb12 : Below W.heap.size W W2 := ⟨hb2.os, hb2.tape, hb2.output, hb2.size, hb2.block⟩
    have hS2 := hS.below hb12
    go_wp2_with fail
    refine hK.out _ _ hS2.cells (fun hH3 => ?_)
    clear hK K
    try simp only [List.setIfInBounds_toArray, List.set_cons_zero, List.set_cons_succ]
    refine wpAnyH_take (i := 11) (oi := ⟨some 36, _, _, _, _, _⟩) (v := ?_) rfl (by kernel_rfl) (by kernel_rfl) (by kernel_rfl) (fun _ _ _ h => h) (Or.inl ⟨by rfl, ?_⟩) hH3 ?_
    rotate_left
    · intro w hSw
      try dsimp only at hSw
      go_simp
      try with_reducible rfl
    try simp only [Act.put, List.setIfInBounds_toArray, List.set_cons_zero, List.set_cons_succ]
    refine wpAnyH_done (by kernel_rfl) ?_ _
    have r0 := hS2.1.2.2.1.cell
    have r1 := hS2.1.2.2.1.frozen
    clear hH0 hH1 hH2 hH3 hb2 HV1 HV2 HA
    by_cases hlt : C i j < vof f i - vof f j
    · have hk := (keeps_below hb12 B0).trans (keeps_setCell W2 ⟨w.heap.size + 1 + 1, 0, none⟩ (.bool false) _)
      gi_wp2
      subst hB0
      exact (⟨hk, rfl, leB_no (C := pmat (vof f)) hi hj (show C i j < vof f i - vof f j from hlt), hS2.1.1.other (by simp <;> omega) _, boxed_other hS2.1.2.1 (by simp) _, hS2.1.2.2.1.set _, hS2.1.2.2.2.setCell (p := ⟨w.heap.size + 1 + 1, 0, none⟩) (by simp; omega) _⟩ : KeepsFrom _ _ _ ∧ Broken _ w _ _ _ .ret _)
    · have hlt' : decide (C i j < vof f i - vof f j) = false := decide_eq_false hlt
      gi_wp2
      subst hB0
      exact (⟨keeps_below hb12 _, kept_below hb12 hcW, hS2, fitTo_snoc (x := ⟨(i, j), hi, hj⟩) hFt (show -far i j ≤ gap (pmat (vof f)) C i j by unfold gap pmat; omega), Nat.lt_of_lt_of_le hcW hb12.size⟩ : KeepsFrom _ _ _ ∧ CellKept _ _ _ ∧ Hz _ _ _ _ _ _ _ _ _ ∧ FitTo _ _ ∧ _)
  case done =>
    rintro E ys W hD rfl ⟨hS, hFt, hcW⟩ hK
    have hle := leB_gap (fitTo_all h0 hFt)
    have r0 := hS.1.2.2.1.cell
    have r1 := hS.1.2.2.1.frozen
    have hp : Boxed (W.setCell ⟨w.heap.size + 1 + 1, 0, none⟩ (.bool true)) (w.heap.size + 1 + 1) 4 (.bool (leB m (pmat (vof f)) C)) := by rw [hle]; exact hS.1.2.2.1.set (.bool true)
    have hM : Marks (w.heap.size + 1 + 1 + 1) [E] (W.setCell ⟨w.heap.size + 1 + 1, 0, none⟩ (.bool true)) := ((marks_nil _ _).cons (by simp at hD; omega) hK (fun D' h => by cases h)).keep (keeps_setCell _ _ _ _)
    have hb := hS.1.2.2.2.setCell (p := ⟨w.heap.size + 1 + 1, 0, none⟩) (by simp; omega) (.bool true)
    go_wp2_with fail
    exact has_leaves (Ds := [E]) (by simp; omega) hM hp hb rfl
  case stop =>
    rintro E c pre W hD _ ⟨rfl, hna, hS⟩ hK
    rw [hna]
    have hlt := (Array.getElem?_eq_some_iff.1 hK).1
    gi_wp2
    exact has_leaves (Ds := [E]) (by simp at hD; omega) ((marks_nil _ _).cons (by simp at hD; omega) hK (fun D' h => by cases h)) hS.2.2.1 hS.2.2.2 rfl
end Go.Proofs.YtimckaphmfidhaaGreatDoor

/- The contract of Has: the bottom, another length, a number that is out; and all of them together. -/
namespace Go.Proofs.YtimckaphmfidhaaGreatDoor
open Go.RowKit Go.Shelf
attribute [local go_sem] Oper.semAt_some
attribute [local go_sem ↓] Go.wp_at_zero Go.wp_at_succ

set_option maxRecDepth 100000 in
set_option maxHeartbeats 1600000 in
theorem has_none {w : World} {N : Int} {Az : Option Addr} {lz cz m n cap : Nat} {P : Option Addr} 
    (K : ∀ W, Below w.heap.size w W → Calls Tryz.prog 70 #[zoneV N Az lz cz] W (RetC W m none)) :
    Calls Tryz.prog 33 #[zoneV N Az lz cz, .slice P n cap] w (RetB w false) := by
  have HT := Lib.hid (hs_new w (.int .i64 N) (.slice Az lz cz) (.slice P n cap) (.bool false))
  have HB := Lib.hid HT.out.2.2.2
  have HK := Lib.hid K
  have e0 : rlen m (none : Option Mat) = 0 := rfl
  clear K
  refine (callsIn_wide (n := 3)).1 ?_
  refine callsIn_of_wp_marks Tryz.func33 rfl trivial ?_ rfl
  simp only [Tryz.ntmps33, List.size_toArray, List.length_cons, List.length_nil, Nat.reduceAdd, Nat.reduceSub, Array.replicate_succ, Array.replicate_zero, List.push_toArray, List.append_toArray, List.nil_append, List.cons_append]
  refine wpIn_wide.2 ?_
  go_wp2_with (first
    | (go_at_call 70; ((with_reducible refine (HK.out _ HB.out).mono ?_); rintro e w1 ⟨A, c1, rfl, hz1, hb1⟩); have hF1 : Hs w w1 _ _ _ _ := Hs.below HT.out hb1; have y0 := hF1.1.cell0; have y1 := hF1.1.cell1; have y4 := hF1.1.frozen0; have y5 := hF1.1.frozen1)
    | (go_at_call 37; ((with_reducible refine (none_any _ _ _ _ _).mono ?_); rintro e w3 ⟨rfl, hb3⟩); have hF2 := (hF1.set (.int .i64 ((m : Int) - 1)) (.slice A 0 c1)).below hb3; have p0 := hF2.1.cell0; have p1 := hF2.1.cell1; have p2 := hF2.2.1.cell; have r0 := hF2.2.2.1.cell; have r1 := hF2.2.2.1.frozen; have HB2 := Lib.hid hF2.2.2.2))
  exact has_leaves (r := false) (Ds := []) (by have := hF2.2.2.1.lt; simp; omega) (marks_nil _ _) (hF2.2.2.1.set (.bool false)) (hF2.2.2.2.setCell (p := ⟨w.heap.size + 1 + 1, 0, none⟩) (by simp; omega) (.bool false)) rfl

set_option maxRecDepth 100000 in
set_option maxHeartbeats 1600000 in
theorem has_len {w : World} {N : Int} {Az : Option Addr} {lz cz m n cap : Nat} {P : Option Addr} {C : Mat} (h0 : 0 < m) (hl : n + 1 ≠ m)
    (K : ∀ W, Below w.heap.size w W → Calls Tryz.prog 70 #[zoneV N Az lz cz] W (RetC W m (some C))) :
    Calls Tryz.prog 33 #[zoneV N Az lz cz, .slice P n cap] w (RetB w false) := by
  have HT := Lib.hid (hs_new w (.int .i64 N) (.slice Az lz cz) (.slice P n cap) (.bool false))
  have HB := Lib.hid HT.out.2.2.2
  have HK := Lib.hid K
  have e1 : rlen m (some C) = m * m := rfl
  have e2 := sq_pos h0
  have e3 : ((n : Int) == (m : Int) - 1) = false := by simp; omega
  have e4 : ((n : Int) != (m : Int) - 1) = true := by simp; omega
  have e5 : decide ((n : Int) = (m : Int) - 1) = false := decide_eq_false (by omega)
  have HL := Lib.hid hl
  clear hl
  clear K
  refine (callsIn_wide (n := 3)).1 ?_
  refine callsIn_of_wp_marks Tryz.func33 rfl trivial ?_ rfl
  simp only [Tryz.ntmps33, List.size_toArray, List.length_cons, List.length_nil, Nat.reduceAdd, Nat.reduceSub, Array.replicate_succ, Array.replicate_zero, List.push_toArray, List.append_toArray, List.nil_append, List.cons_append]
  refine wpIn_wide.2 ?_
  go_wp2_with (first
    | (go_at_call 70; ((with_reducible refine (HK.out _ HB.out).mono ?_); rintro e w1 ⟨A, c1, rfl, hz1, hb1⟩); have hF1 : Hs w w1 _ _ _ _ := Hs.below HT.out hb1; have y0 := hF1.1.cell0; have y1 := hF1.1.cell1; have y4 := hF1.1.frozen0; have y5 := hF1.1.frozen1)
    | (go_at_call 37; ((with_reducible refine (none_any _ _ _ _ _).mono ?_); rintro e w3 ⟨rfl, hb3⟩); have hF2 := (hF1.set (.int .i64 ((m : Int) - 1)) (.slice A (m * m) c1)).below hb3; have p0 := hF2.1.cell0; have p1 := hF2.1.cell1; have p2 := hF2.2.1.cell; have r0 := hF2.2.2.1.cell; have r1 := hF2.2.2.1.frozen; have HB2 := Lib.hid hF2.2.2.2))
  exact has_leaves (r := false) (Ds := []) (by have := hF2.2.2.1.lt; simp; omega) (marks_nil _ _) (hF2.2.2.1.set (.bool false)) (hF2.2.2.2.setCell (p := ⟨w.heap.size + 1 + 1, 0, none⟩) (by simp; omega) (.bool false)) rfl

set_option maxRecDepth 100000 in
set_option maxHeartbeats 1600000 in
theorem has_out {w : World} {N : Int} {Az : Option Addr} {lz cz m n cap : Nat} {P : Option Addr} {C : Mat} {b off : Nat} {f : Nat → Int} (h0 : 0 < m) (hP : P = some ⟨b, off, none⟩) (hn : n ≤ 100) (hb : b < w.heap.size) (hc : ∀ k, k < n → w.cell? ⟨b, off + k, none⟩ = some (.int .i64 (f k))) (hlen : n + 1 = m) (hout : anyOut n f = true)
    (K : ∀ W, Below w.heap.size w W → Calls Tryz.prog 70 #[zoneV N Az lz cz] W (RetC W m (some C))) :
    Calls Tryz.prog 33 #[zoneV N Az lz cz, .slice P n cap] w (RetB w false) := by
  subst hP
  have HT := Lib.hid (hs_new w (.int .i64 N) (.slice Az lz cz) (.slice (some ⟨b, off, none⟩) n cap) (.bool false))
  have HB := Lib.hid HT.out.2.2.2
  have HK := Lib.hid K
  have HCon := Lib.hid (fun (X : World) (hX : Below w.heap.size w X) => contains_any b off n cap f X hn (Nat.lt_of_lt_of_le hb hX.size) (fun k hk => (hX.cell (p := ⟨b, off + k, none⟩) hb).trans (hc k hk)))
  rw [hout] at HCon
  clear hc hout
  have e1 : rlen m (some C) = m * m := rfl
  have e2 := sq_pos h0
  have e3 : ((n : Int) == (m : Int) - 1) = true := by simp; omega
  have e4 : ((n : Int) != (m : Int) - 1) = false := by simp; omega
  have e5 : decide ((n : Int) = (m : Int) - 1) = true := decide_eq_true (by omega)
  clear K
  refine (callsIn_wide (n := 3)).1 ?_
  refine callsIn_of_wp_marks Tryz.func33 rfl trivial ?_ rfl
  simp only [Tryz.ntmps33, List.size_toArray, List.length_cons, List.length_nil, Nat.reduceAdd, Nat.reduceSub, Array.replicate_succ, Array.replicate_zero, List.push_toArray, List.append_toArray, List.nil_append, List.cons_append]
  refine wpIn_wide.2 ?_
  go_wp2_with (first
    | (go_at_call 70; ((with_reducible refine (HK.out _ HB.out).mono ?_); rintro e w1 ⟨A, c1, rfl, hz1, hb1⟩); have hF1 : Hs w w1 _ _ _ _ := Hs.below HT.out hb1; have y0 := hF1.1.cell0; have y1 := hF1.1.cell1; have y4 := hF1.1.frozen0; have y5 := hF1.1.frozen1)
    | (go_at_call 37; ((with_reducible refine (none_any _ _ _ _ _).mono ?_); rintro e w3 ⟨rfl, hb3⟩); have hF2 := (hF1.set (.int .i64 ((m : Int) - 1)) (.slice A (m * m) c1)).below hb3; have p0 := hF2.1.cell0; have p1 := hF2.1.cell1; have p2 := hF2.2.1.cell; have r0 := hF2.2.2.1.cell; have r1 := hF2.2.2.1.frozen; have HB2 := Lib.hid hF2.2.2.2)
    | (go_at_call 82; ((with_reducible refine (HCon.out _ HB2.out).mono ?_); rintro e w4 ⟨rfl, hb4⟩); have hF3 := hF2.below hb4; have q0 := hF3.2.2.1.cell; have q1 := hF3.2.2.1.frozen))
  exact has_leaves (r := false) (Ds := []) (by have := hF3.2.2.1.lt; simp; omega) (marks_nil _ _) (hF3.2.2.1.set (.bool false)) (hF3.2.2.2.setCell (p := ⟨w.heap.size + 1 + 1, 0, none⟩) (by simp; omega) (.bool false)) rfl

/-- Has, whatever the numbers are. -/
def hasO (m n : Nat) (f : Nat → Int) : Option Mat → Bool
  | none => false
  | some C => decide (n + 1 = m) && (!anyOut n f && leB m (pmat (vof f)) C)
theorem has_any {w : World} {N : Int} {Az : Option Addr} {lz cz m b off n cap : Nat} {f : Nat → Int} {R : Option Mat} (h0 : 0 < m) (h7 : m ≤ 7) (hb : b < w.heap.size) (hc : ∀ k, k < n → w.cell? ⟨b, off + k, none⟩ = some (.int .i64 (f k)))
    (K : ∀ W, Below w.heap.size w W → Calls Tryz.prog 70 #[zoneV N Az lz cz] W (RetC W m R)) :
    Calls Tryz.prog 33 #[zoneV N Az lz cz, .slice (some ⟨b, off, none⟩) n cap] w (RetB w (hasO m n f R)) := by
  cases R with
  | none => exact has_none K
  | some C =>
    by_cases hl : n + 1 = m
    · cases ho : anyOut n f
      · have e : hasO m n f (some C) = leB m (pmat (vof f)) C := by
          show (decide (n + 1 = m) && (!anyOut n f && leB m (pmat (vof f)) C)) = _
          rw [ho, decide_eq_true hl]; rfl
        rw [e]
        exact has_pts h0 h7 (by omega) hb hc hl ho K
      · have e : hasO m n f (some C) = false := by
          show (decide (n + 1 = m) && (!anyOut n f && leB m (pmat (vof f)) C)) = _
          rw [ho, decide_eq_true hl]; rfl
        rw [e]
        exact has_out (P := some ⟨b, off, none⟩) h0 rfl (by omega) hb hc hl ho K
    · have e : hasO m n f (some C) = false := by
        show (decide (n + 1 = m) && (!anyOut n f && leB m (pmat (vof f)) C)) = _
        rw [decide_eq_false hl]; rfl
      rw [e]
      exact has_len h0 hl K
end Go.Proofs.YtimckaphmfidhaaGreatDoor

/- The contract of Has at a row of no number. -/
namespace Go.Proofs.YtimckaphmfidhaaGreatDoor
open Go.RowKit Go.Shelf
attribute [local go_sem] Oper.semAt_some
attribute [local go_sem ↓] Go.wp_at_zero Go.wp_at_succ

set_option maxRecDepth 100000 in
theorem value_nil (P : Option Addr) (n cap i : Nat) (f : Nat → Int) (w : World) (hn : n = 0) (hi : i ≤ n) :
    Calls Tryz.prog 85 #[.slice P n cap, .int .i64 (i : Int)] w fun e w' => e = .returned (.int .i64 (vof f i)) ∧ w' = w := by
  unfold vof
  obtain rfl : i = 0 := by omega
  rw [if_pos rfl]
  go_enter Tryz.func85, Tryz.ntmps85
  go_wp2_with fail
  go_ret
  exact ⟨rfl, rfl⟩
set_option maxRecDepth 100000 in
set_option maxHeartbeats 1600000 in
theorem index_nil (P : Option Addr) (n cap : Nat) (f : Nat → Int) (w : World) (hn : n = 0) :
    Calls Tryz.prog 119 #[.slice P n cap, .func (.func 83) #[] #[]] w (RetAt w (anyOut n f)) := by
  go_enter Tryz.func119, Tryz.ntmps119
  go_wp2_with fail
  go_loopg [8] n (fun g s8 wr => s8 = .int .i64 ((0 : Nat) : Int) ∧ Below w.heap.size w wr)
  case atStart => exact ⟨rfl, Below.refl _ _⟩
  case round =>
    obtain ⟨rfl, hB⟩ := hrel
    have hlt : ¬ (0 < n) := by omega
    go_wp2_with fail
    go_ret
    refine ⟨⟨_, rfl, ?_⟩, hB⟩
    rw [anyOut_no fun k hk => absurd hk (by omega)]
    rfl
set_option maxRecDepth 100000 in
set_option maxHeartbeats 1600000 in
theorem contains_nil (P : Option Addr) (n cap : Nat) (f : Nat → Int) (w : World) (hn : n = 0) :
    Calls Tryz.prog 82 #[.slice P n cap, .func (.func 83) #[] #[]] w (RetB w (anyOut n f)) := by
  have HI := Lib.hid (index_nil P n cap f w hn)
  clear hn
  generalize anyOut n f = x at *
  go_enter Tryz.func82, Tryz.ntmps82
  go_wp2_with (go_at_call 119; ((with_reducible refine HI.out.mono ?_); rintro e w1 ⟨⟨r, rfl, rfl⟩, hb1⟩))
  go_ret
  exact ⟨rfl, hb1⟩
set_option maxRecDepth 100000 in
set_option maxHeartbeats 3200000 in
theorem has_nil {w : World} {N : Int} {Az P : Option Addr} {lz cz m n cap : Nat} {f : Nat → Int} {C : Mat} (h0 : 0 < m) (h7 : m ≤ 7) (hn : n = 0) (hlen : n + 1 = m) (hin : anyOut n f = false)
    (K : ∀ W, Below w.heap.size w W → Calls Tryz.prog 70 #[zoneV N Az lz cz] W (RetC W m (some C))) :
    Calls Tryz.prog 33 #[zoneV N Az lz cz, .slice P n cap] w (RetB w (leB m (pmat (vof f)) C)) := by
  have HT := Lib.hid (hs_new w (.int .i64 N) (.slice Az lz cz) (.slice P n cap) (.bool false))
  have HB := Lib.hid HT.out.2.2.2
  have HK := Lib.hid K
  have HCon := Lib.hid (fun (X : World) (hX : Below w.heap.size w X) => contains_nil P n cap f X hn)
  have HVal := Lib.hid (fun (X : World) (hX : Below w.heap.size w X) (i : Nat) (hi : i ≤ n) => value_nil P n cap i f X hn hi)
  have HIn := Lib.hid hin
  have e1 : rlen m (some C) = m * m := rfl
  have e2 := sq_pos h0
  have e3 : ((n : Int) == (m : Int) - 1) = true := by simp; omega
  have e4 : ((n : Int) != (m : Int) - 1) = false := by simp; omega
  have e5 : decide ((n : Int) = (m : Int) - 1) = true := decide_eq_true (by omega)
  rw [HIn.out] at HCon
  clear K hin hn
  refine (callsIn_wide (n := 3)).1 ?_
  refine callsIn_of_wp_marks Tryz.func33 rfl trivial ?_ rfl
  simp only [Tryz.ntmps33, List.size_toArray, List.length_cons, List.length_nil, Nat.reduceAdd, Nat.reduceSub, Array.replicate_succ, Array.replicate_zero, List.push_toArray, List.append_toArray, List.nil_append, List.cons_append]
  refine wpIn_wide.2 ?_
  go_wp2_with (first
    | (go_at_call 70; ((with_reducible refine (HK.out _ HB.out).mono ?_); rintro e w1 ⟨A, c1, rfl, hz1, hb1⟩); have hF1 : Hs w w1 _ _ _ _ := Hs.below HT.out hb1; have y0 := hF1.1.cell0; have y1 := hF1.1.cell1; have y4 := hF1.1.frozen0; have y5 := hF1.1.frozen1)
    | (go_at_call 37; ((with_reducible refine (none_any _ _ _ _ _).mono ?_); rintro e w3 ⟨rfl, hb3⟩); have hF2 := (hF1.set (.int .i64 ((m : Int) - 1)) (.slice A (m * m) c1)).below hb3; have hZ2 := ((hz1.setCell (a := ⟨w.heap.size, 0, none⟩) (by simp; omega) (.int .i64 ((m : Int) - 1))).setCell (a := ⟨w.heap.size, 1, none⟩) (by simp; omega) (.slice A (m * m) c1)).below hb3; have p0 := hF2.1.cell0; have p1 := hF2.1.cell1; have p2 := hF2.2.1.cell; have HB2 := Lib.hid hF2.2.2.2)
    | (go_at_call 82; ((with_reducible refine (HCon.out _ HB2.out).mono ?_); rintro e w4 ⟨rfl, hb4⟩); have hF3 := hF2.below hb4; have hZ3 := hZ2.below hb4; have q0 := hF3.1.cell0; have q1 := hF3.1.cell1; have q2 := hF3.2.1.cell)
    | (go_at_call 79; ((with_reducible refine (cells_any _ _).mono ?_); rintro e w5 ⟨rfl, rfl⟩)))
  obtain ⟨g, rfl, hC, o⟩ := zres_some hZ3
  have hz3 := (Hz.below ⟨hF3, o⟩ (zboxed w4 (.cells #[.int .i64 ((m : Int) - 1)] 3)))
  obtain ⟨BB, hBB⟩ : ∃ BB, BB = (((w.alloc (.cells #[.int .i64 N, .slice Az lz cz] 28)).alloc (.cells #[.slice P n cap] 22)).alloc (.cells #[.bool false] 4)).heap.size := ⟨_, rfl⟩
  rw [← hBB] at hz3
  have HI0 := Lib.hid hz3
  have hs4 := hF3.2.2.1.lt
  have hw4 := hF3.2.2.2.size
  have hcb := Boxed.new w4 3 (.int .i64 ((m : Int) - 1))
  clear y0 y1 y4 y5 p0 p1 p2 q0 q1 q2 hF1 hF2 hF3 hZ2 hZ3 hb1 hb3 hb4 hz1 o hC hz3 hBB
  refine (wpIn_wide (n := 3)).1 ?_
  refine wpIn_rangeFunc_ownG rfl (by omega) (gf := 114) (lb := #[.pointer (some ⟨w4.heap.size, 0, none⟩)]) rfl trivial (enters_of Tryz.func114 (by kernel_rfl) rfl)
    (cells_stops Fence.wide 2 trivial rfl (by omega) (w4.heap.size) m h7 h0 _ (by simp) hcb.cell) cellKept_t (cellKept_b (by simp)) (Below.refl _ _) (fun _ => rfl)
    (fun pre W => Hz w BB m g c1 C (.slice P n cap) (.bool false) W ∧ FitTo (gap (pmat (vof f)) C) pre ∧ w4.heap.size < W.heap.size)
    (fun c _ W => Broken (leB m (pmat (vof f)) C) w (.int .i64 ((m : Int) - 1)) (.slice (some ⟨g, 0, none⟩) (m * m) c1) (.slice P n cap) c W)
    (OwnFrom.and (hz_own _ (by simp; omega)) (fun _ _ _ _ h hg _ => ⟨h.1, Nat.lt_of_lt_of_le h.2 hg.size⟩)) (broken_own (leB m (pmat (vof f)) C) w _ _ _ _ (by simp; omega)) ⟨HI0.out, fitTo_nil _, by simp⟩
    (fun x => { tmps := #[zoneV N Az lz cz, .slice P n cap, .pointer (some ⟨w.heap.size, 0, none⟩), .pointer (some ⟨w.heap.size + 1, 0, none⟩), .pointer (some ⟨w.heap.size + 1 + 1, 0, none⟩), .int .i64 (x.1.1 : Int), .int .i64 (x.1.2 : Int), .agg #[.int .i64 N, .slice Az lz cz], zoneV ((m : Int) - 1) (some ⟨g, 0, none⟩) (m * m) c1, .agg #[.int .i64 ((m : Int) - 1), .slice (some ⟨g, 0, none⟩) (m * m) c1], .bool false, .bool false, .slice P n cap, .int .i64 n, .pointer (some ⟨w.heap.size, 0, none⟩), .int .i64 ((m : Int) - 1), .bool false, .bool false, .slice P n cap, .bool false, .pointer (some ⟨w.heap.size, 0, none⟩), .int .i64 ((m : Int) - 1), .func (.func 114) #[] #[.pointer (some ⟨w4.heap.size, 0, none⟩)], .int .i64 (x.1.1 : Int), .int .i64 (x.1.2 : Int), undef, undef, undef, undef, undef, undef, undef, undef, undef, undef, undef, undef], defers := [] }) ?assign ?body ?done ?stop
  case assign =>
    intro l x W K hK
    gi_wp2
    exact hK
  case body =>
    rintro l pre ⟨⟨i, j⟩, hi, hj⟩ W ⟨hS, hFt, hcW⟩ hlen2
    dsimp only at hi hj ⊢
    obtain ⟨B0, hB0⟩ : ∃ B0, B0 = (w4.alloc (.cells #[.int .i64 ((m : Int) - 1)] 3)).heap.size := ⟨_, rfl⟩
    have bi := vof_bd HIn.out (show i ≤ n by omega)
    have bj := vof_bd HIn.out (show j ≤ n by omega)
    have hw : IntKind.i64.wrap (vof f i - vof f j) = vof f i - vof f j := IntWalk.i64_in _ (by omega)
    have HV1 := Lib.hid (HVal.out _ hS.drew.1.2.2.2 i (by omega))
    have HV2 := Lib.hid (HVal.out _ hS.drew.1.2.2.2 j (by omega))
    have HA := Lib.hid (at_own h7 hi hj hS.drew.2)
    gi_wp2
    refine wpIn_held (S := (fun W' => W'.cell? ⟨w.heap.size + 1, 0, none⟩ = some (.slice P n cap) ∧ W'.cell? ⟨w.heap.size, 0, none⟩ = some (.int .i64 ((m : Int) - 1)) ∧ W'.cell? ⟨w.heap.size, 1, none⟩ = some (.slice (some ⟨g, 0, none⟩) (m * m) c1))) (by kernel_rfl) (by kernel_rfl) (by rintro ⟨_, _, h⟩; exact h) hS.cells (fun hH0 => ?_)
    simp only [List.size_toArray, List.length_cons, List.length_nil, Nat.reduceAdd, Array.replicate_succ, Array.replicate_zero, List.push_toArray, List.nil_append, List.cons_append]
    refine wpAnyH_take (i := 0) (oi := ⟨some 25, _, _, _, _, _⟩) (v := ?_) rfl (by kernel_rfl) (by kernel_rfl) (by kernel_rfl) (fun _ _ _ h => h) (Or.inl ⟨by rfl, ?_⟩) hH0 ?_
    rotate_left
    · intro w hSw
      try dsimp only at hSw
      go_simp
      try with_reducible rfl
    try simp only [Act.put, List.setIfInBounds_toArray, List.set_cons_zero, List.set_cons_succ]
    refine wpAnyH_take (i := 1) (oi := ⟨some 26, _, _, _, _, _⟩) (v := ?_) rfl (by kernel_rfl) (by kernel_rfl) (by kernel_rfl) (fun _ _ _ h => h) (Or.inl ⟨by rfl, ?_⟩) hH0 ?_
    rotate_left
    · intro w hSw
      try dsimp only at hSw
      go_simp
      try with_reducible rfl
    try simp only [Act.put, List.setIfInBounds_toArray, List.set_cons_zero, List.set_cons_succ]
    refine wpAnyH_take (i := 3) (oi := ⟨some 28, _, _, _, _, _⟩) (v := ?_) rfl (by kernel_rfl) (by kernel_rfl) (by kernel_rfl) (fun _ _ _ h => h) (Or.inl ⟨by rfl, ?_⟩) hH0 ?_
    rotate_left
    · intro w hSw
      try dsimp only at hSw
      go_simp
      try with_reducible rfl
    try simp only [Act.put, List.setIfInBounds_toArray, List.set_cons_zero, List.set_cons_succ]
    refine wpAnyH_take (i := 4) (oi := ⟨some 29, _, _, _, _, _⟩) (v := ?_) rfl (by kernel_rfl) (by kernel_rfl) (by kernel_rfl) (fun _ _ _ h => h) (Or.inl ⟨by rfl, ?_⟩) hH0 ?_
    rotate_left
    · intro w hSw
      try dsimp only at hSw
      go_simp
      try with_reducible rfl
    try simp only [Act.put, List.setIfInBounds_toArray, List.set_cons_zero, List.set_cons_succ]
    refine wpAnyH_take (i := 7) (oi := ⟨some 32, _, _, _, _, _⟩) (v := ?_) rfl (by kernel_rfl) (by kernel_rfl) (by kernel_rfl) (fun _ _ _ h => h) (Or.inl ⟨by rfl, ?_⟩) hH0 ?_
    rotate_left
    · intro w hSw
      try dsimp only at hSw
      go_simp
      try with_reducible rfl
    try simp only [Act.put, List.setIfInBounds_toArray, List.set_cons_zero, List.set_cons_succ]
    refine wpAnyH_take (i := 8) (oi := ⟨some 33, _, _, _, _, _⟩) (v := ?_) rfl (by kernel_rfl) (by kernel_rfl) (by kernel_rfl) (fun _ _ _ h => h) (Or.inl ⟨by rfl, ?_⟩) hH0 ?_
    rotate_left
    · intro w hSw
      try dsimp only at hSw
      go_simp
      try with_reducible rfl
    try simp only [Act.put, List.setIfInBounds_toArray, List.set_cons_zero, List.set_cons_succ]
    refine wpAnyH_take (i := 9) (oi := ⟨some 34, _, _, _, _, _⟩) (v := ?_) rfl (by kernel_rfl) (by kernel_rfl) (by kernel_rfl) (fun _ _ _ h => h) (Or.inl ⟨by rfl, ?_⟩) hH0 ?_
    rotate_left
    · intro w hSw
      try dsimp only at hSw
      go_simp
      try with_reducible rfl
    try simp only [Act.put, List.setIfInBounds_toArray, List.set_cons_zero, List.set_cons_succ]
    refine wpAnyH_ready (rs := [2]) (by kernel_rfl) (by simp) ?_
    refine (AllReadyH.cons (o := ⟨some 27, _, _, _, _, _⟩) rfl (fun K hK => ?_) AllReadyH.nil)
    go_simp
    refine HV1.out.mono ?_
    rintro e w' ⟨rfl, rfl⟩
    go_wp2_with fail
    refine hK.out _ _ hS.drew.cells (fun hH1 => ?_)
    clear hK K
    try simp only [List.setIfInBounds_toArray, List.set_cons_zero, List.set_cons_succ]
    refine wpAnyH_ready (rs := [5]) (by kernel_rfl) (by simp) ?_
    refine (AllReadyH.cons (o := ⟨some 30, _, _, _, _, _⟩) rfl (fun K hK => ?_) AllReadyH.nil)
    go_simp
    refine HV2.out.mono ?_
    rintro e w' ⟨rfl, rfl⟩
    go_wp2_with fail
    refine hK.out _ _ hS.drew.cells (fun hH2 => ?_)
    clear hK K
    try simp only [List.setIfInBounds_toArray, List.set_cons_zero, List.set_cons_succ]
    refine wpAnyH_take (i := 6) (oi := ⟨some 31, _, _, _, _, _⟩) (v := ?_) rfl (by kernel_rfl) (by kernel_rfl) (by kernel_rfl) (fun _ _ _ h => h) (Or.inl ⟨by rfl, ?_⟩) hH2 ?_
    rotate_left
    · intro w hSw
      try dsimp only at hSw
      go_simp
      try with_reducible rfl
    try simp only [Act.put, List.setIfInBounds_toArray, List.set_cons_zero, List.set_cons_succ]
    refine wpAnyH_ready (rs := [10]) (by kernel_rfl) (by simp) ?_
    refine (AllReadyH.cons (o := ⟨some 35, _, _, _, _, _⟩) rfl (fun K hK => ?_) AllReadyH.nil)
    go_simp
    refine HA.out.mono ?_
    rintro e W2 ⟨rfl, hb2⟩
    have hb12 : Below W.heap.size W W2 := ⟨hb2.os, hb2.tape, hb2.output, hb2.size, hb2.block⟩
    have hS2 := hS.below hb12
    go_wp2_with fail
    refine hK.out _ _ hS2.cells (fun hH3 => ?_)
    clear hK K
    try simp only [List.setIfInBounds_toArray, List.set_cons_zero, List.set_cons_succ]
    refine wpAnyH_take (i := 11) (oi := ⟨some 36, _, _, _, _, _⟩) (v := ?_) rfl (by kernel_rfl) (by kernel_rfl) (by kernel_rfl) (fun _ _ _ h => h) (Or.inl ⟨by rfl, ?_⟩) hH3 ?_
    rotate_left
    · intro w hSw
      try dsimp only at hSw
      go_simp
      try with_reducible rfl
    try simp only [Act.put, List.setIfInBounds_toArray, List.set_cons_zero, List.set_cons_succ]
    refine wpAnyH_done (by kernel_rfl) ?_ _
    have r0 := hS2.1.2.2.1.cell
    have r1 := hS2.1.2.2.1.frozen
    clear hH0 hH1 hH2 hH3 hb2 HV1 HV2 HA
    by_cases hlt : C i j < vof f i - vof f j
    · have hk := (keeps_below hb12 B0).trans (keeps_setCell W2 ⟨w.heap.size + 1 + 1, 0, none⟩ (.bool false) _)
      gi_wp2
      subst hB0
      exact (⟨hk, rfl, leB_no (C := pmat (vof f)) hi hj (show C i j < vof f i - vof f j from hlt), hS2.1.1.other (by simp <;> omega) _, boxed_other hS2.1.2.1 (by simp) _, hS2.1.2.2.1.set _, hS2.1.2.2.2.setCell (p := ⟨w.heap.size + 1 + 1, 0, none⟩) (by simp; omega) _⟩ : KeepsFrom _ _ _ ∧ Broken _ w _ _ _ .ret _)
    · have hlt' : decide (C i j < vof f i - vof f j) = false := decide_eq_false hlt
      gi_wp2
      subst hB0
      exact (⟨keeps_below hb12 _, kept_below hb12 hcW, hS2, fitTo_snoc (x := ⟨(i, j), hi, hj⟩) hFt (show -far i j ≤ gap (pmat (vof f)) C i j by unfold gap pmat; omega), Nat.lt_of_lt_of_le hcW hb12.size⟩ : KeepsFrom _ _ _ ∧ CellKept _ _ _ ∧ Hz _ _ _ _ _ _ _ _ _ ∧ FitTo _ _ ∧ _)
  case done =>
    rintro E ys W hD rfl ⟨hS, hFt, hcW⟩ hK
    have hle := leB_gap (fitTo_all h0 hFt)
    have r0 := hS.1.2.2.1.cell
    have r1 := hS.1.2.2.1.frozen
    have hp : Boxed (W.setCell ⟨w.heap.size + 1 + 1, 0, none⟩ (.bool true)) (w.heap.size + 1 + 1) 4 (.bool (leB m (pmat (vof f)) C)) := by rw [hle]; exact hS.1.2.2.1.set (.bool true)
    have hM : Marks (w.heap.size + 1 + 1 + 1) [E] (W.setCell ⟨w.heap.size + 1 + 1, 0, none⟩ (.bool true)) := ((marks_nil _ _).cons (by simp at hD; omega) hK (fun D' h => by cases h)).keep (keeps_setCell _ _ _ _)
    have hb := hS.1.2.2.2.setCell (p := ⟨w.heap.size + 1 + 1, 0, none⟩) (by simp; omega) (.bool true)
    go_wp2_with fail
    exact has_leaves (Ds := [E]) (by simp; omega) hM hp hb rfl
  case stop =>
    rintro E c pre W hD _ ⟨rfl, hna, hS⟩ hK
    rw [hna]
    have hlt := (Array.getElem?_eq_some_iff.1 hK).1
    gi_wp2
    exact has_leaves (Ds := [E]) (by simp at hD; omega) ((marks_nil _ _).cons (by simp at hD; omega) hK (fun D' h => by cases h)) hS.2.2.1 hS.2.2.2 rfl
end Go.Proofs.YtimckaphmfidhaaGreatDoor

/- A right zone is its own Close; and right zones with the same bounds are told alike. -/
namespace Go.Proofs.YtimckaphmfidhaaGreatDoor
open Go.RowKit

def SameO (m : Nat) : Option Mat → Option Mat → Prop
  | none, none => True
  | some C, some D => Same m C D
  | _, _ => False
theorem rlen_same {m : Nat} {R S : Option Mat} (h : SameO m R S) : rlen m R = rlen m S := by
  cases R <;> cases S <;> first | rfl | exact absurd h (by simp [SameO])
theorem zres_congr {W : World} {base m : Nat} {R S : Option Mat} {v : Value} (hz : ZRes W base m R v) (h : SameO m R S) : ZRes W base m S v := by
  cases R with
  | none => cases S with
    | none => exact hz
    | some D => exact absurd h (by simp [SameO])
  | some C => cases S with
    | none => exact absurd h (by simp [SameO])
    | some D =>
      obtain ⟨hC, g, cap, e, o⟩ := hz
      have h' : Same m C D := h
      rw [flat_congr h'] at o
      exact ⟨hC.congr h', g, cap, e, o⟩
theorem retC_congr {w : World} {m : Nat} {R S : Option Mat} {e : Ending} {w' : World} (hr : RetC w m R e w') (h : SameO m R S) : RetC w m S e w' := by
  obtain ⟨A, cap, he, hz, hb⟩ := hr
  rw [rlen_same h] at he hz
  exact ⟨A, cap, he, zres_congr hz h, hb⟩
/-- Close leaves a right one as it is. -/
theorem close_back {w : World} {A : Option Addr} {c m base : Nat} {R : Option Mat} (h0 : 0 < m) (h7 : m ≤ 7) (hz : ZRes w base m R (zoneV ((m : Int) - 1) A (rlen m R) c)) :
    Calls Tryz.prog 70 #[zoneV ((m : Int) - 1) A (rlen m R) c] w (RetC w m R) := by
  have h := close_z (hz.arg h7)
  rw [(zm_of h0 h7).2] at h
  refine h.mono fun e w' hr => retC_congr hr ?_
  cases R with
  | none => rw [zr_bottom m h0 h7]; trivial
  | some C =>
    obtain ⟨D, e1, e2⟩ := zr_right h0 h7 hz.1
    rw [e1]
    exact e2
theorem two_back {w : World} {A B : Option Addr} {c d ma mb base : Nat} {Ra Rb : Option Mat} (h0 : 0 < ma) (h7 : ma ≤ 7) (g0 : 0 < mb) (g7 : mb ≤ 7) (ha : ZRes w base ma Ra (zoneV ((ma : Int) - 1) A (rlen ma Ra) c)) (hb : ZRes w base mb Rb (zoneV ((mb : Int) - 1) B (rlen mb Rb) d)) :
    Calls Tryz.prog 36 #[zoneV ((ma : Int) - 1) A (rlen ma Ra) c, zoneV ((mb : Int) - 1) B (rlen mb Rb) d] w (RetTwo w ma mb Ra Rb) :=
  two_of (fun _ hW => close_back h0 h7 (ha.below hW)) (fun _ hW => close_back g0 g7 (hb.below hW))

/-- A matrix by its rows. -/
def rowsM (m : Nat) (xs : List Int) : Mat := fun i j => xs.getD (i * m + j) 0
def sameB2 (m : Nat) (C D : Mat) : Bool := (List.range m).all fun i => (List.range m).all fun j => decide (C i j = D i j)
theorem sameB2_same {m : Nat} {C D : Mat} (h : sameB2 m C D = true) : Same m C D := by
  unfold sameB2 at h
  simp only [List.all_eq_true, List.mem_range, decide_eq_true_eq] at h
  exact fun i j hi hj => h i hi j hj
theorem setR_rows {m : Nat} {A : Mat} {xs : List Int} (ha : aliveB m A = true) (hs : sameB2 m (lev A m) (rowsM m xs) = true) : SameO m (setR m A) (some (rowsM m xs)) := by
  rw [setR_yes ((aliveB_iff _ _).1 ha)]
  exact sameB2_same hs
theorem setR_gone {m : Nat} {A : Mat} (ha : aliveB m A = false) : setR m A = none := setR_no (fun h => by rw [(aliveB_iff _ _).2 h] at ha; cases ha)

/-- The zones of 'alive'. -/
def A1 : List Int := [0, 1152921504606846976, 1152921504606846976, 5, 0, 1152921504606846981, 1152921504606846976, 2305843009213693952, 0]
def A2 : List Int := [0, 1152921504606846973, 1152921504606846976, 5, 0, 1152921504606846981, 2, -3, 0]
theorem grdO_in {m : Nat} {C : Mat} {i j : Nat} {c : Int} (hi : i < m) (hj : j < m) : grdO m (some C) (i : Int) (j : Int) c = setR m (grd C i j c) := by
  have e : (knownB ((m : Int) - 1) (i : Int) && knownB ((m : Int) - 1) (j : Int)) = true := by simp [knownB]; omega
  show (if _ then _ else _) = _
  rw [if_pos e]
  rfl
theorem a1_same : SameO 3 (grdO 3 (some far) 1 0 5) (some (rowsM 3 A1)) := by
  have e : grdO 3 (some far) 1 0 5 = setR 3 (grd far 1 0 5) := grdO_in (i := 1) (j := 0) (by decide) (by decide)
  rw [e]
  exact setR_rows (by decide +kernel) (by decide +kernel)
theorem a2_same : SameO 3 (grdO 3 (some (rowsM 3 A1)) 2 1 (-3)) (some (rowsM 3 A2)) := by
  have e : grdO 3 (some (rowsM 3 A1)) 2 1 (-3) = setR 3 (grd (rowsM 3 A1) 2 1 (-3)) := grdO_in (i := 2) (j := 1) (by decide) (by decide)
  rw [e]
  exact setR_rows (by decide +kernel) (by decide +kernel)
theorem a3_none : grdO 3 (some (rowsM 3 A2)) 0 1 (-6) = none := by
  have e : grdO 3 (some (rowsM 3 A2)) 0 1 (-6) = setR 3 (grd (rowsM 3 A2) 0 1 (-6)) := grdO_in (i := 0) (j := 1) (by decide) (by decide)
  rw [e]
  exact setR_gone (by decide +kernel)
theorem a2_span : spO 3 (some (rowsM 3 A2)) 2 = (-1152921504606846976, 2) := by decide +kernel
theorem a2_get : getO 3 (some (rowsM 3 A2)) 2 1 = -3 := by decide +kernel
theorem a2_has : leB 3 (pmat (vof fun k => if k = 0 then 5 else 2)) (rowsM 3 A2) = true := by decide +kernel
end Go.Proofs.YtimckaphmfidhaaGreatDoor
