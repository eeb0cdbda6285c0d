/- The contract of Has: the bottom, another length, a number that is out; and all of them together. -/
import Derived.Test.YtlddelnbjihhgaaGreatDoorHas
namespace Go.Proofs.YtlddelnbjihhgaaGreatDoor
open Go.RowKit Go.Shelf
attribute [local go_sem] Oper.semAt_some
attribute [local go_sem ↓] Go.wp_at_zero Go.wp_at_succ

set_option maxRecDepth 100000 in
set_option maxHeartbeats 1600000 in
theorem has_none {w : World} {N : Int} {Az : Option Addr} {lz cz m n cap : Nat} {P : Option Addr} 
    (K : ∀ W, Below w.heap.size w W → Calls Tryz.prog 34 #[zoneV N Az lz cz] W (RetC W m none)) :
    Calls Tryz.prog 31 #[zoneV N Az lz cz, .slice P n cap] w (RetB w false) := by
  have HT := Lib.hid (hs_new w (.int .i64 N) (.slice Az lz cz) (.slice P n cap) (.bool false))
  have HB := Lib.hid HT.out.2.2.2
  have HK := Lib.hid K
  have e0 : rlen m (none : Option Mat) = 0 := rfl
  clear K
  refine (callsIn_wide (n := 3)).1 ?_
  refine callsIn_of_wp_marks Tryz.func31 rfl trivial ?_ rfl
  simp only [Tryz.ntmps31, List.size_toArray, List.length_cons, List.length_nil, Nat.reduceAdd, Nat.reduceSub, Array.replicate_succ, Array.replicate_zero, List.push_toArray, List.append_toArray, List.nil_append, List.cons_append]
  refine wpIn_wide.2 ?_
  go_wp2_with (first
    | (go_at_call 34; ((with_reducible refine (HK.out _ HB.out).mono ?_); rintro e w1 ⟨A, c1, rfl, hz1, hb1⟩); have hF1 : Hs w w1 _ _ _ _ := Hs.below HT.out hb1; have y0 := hF1.1.cell0; have y1 := hF1.1.cell1; have y4 := hF1.1.frozen0; have y5 := hF1.1.frozen1)
    | (go_at_call 35; ((with_reducible refine (none_any _ _ _ _ _).mono ?_); rintro e w3 ⟨rfl, hb3⟩); have hF2 := (hF1.set (.int .i64 ((m : Int) - 1)) (.slice A 0 c1)).below hb3; have p0 := hF2.1.cell0; have p1 := hF2.1.cell1; have p2 := hF2.2.1.cell; have r0 := hF2.2.2.1.cell; have r1 := hF2.2.2.1.frozen; have HB2 := Lib.hid hF2.2.2.2))
  exact has_leaves (r := false) (Ds := []) (by have := hF2.2.2.1.lt; simp; omega) (marks_nil _ _) (hF2.2.2.1.set (.bool false)) (hF2.2.2.2.setCell (p := ⟨w.heap.size + 1 + 1, 0, none⟩) (by simp; omega) (.bool false)) rfl

set_option maxRecDepth 100000 in
set_option maxHeartbeats 1600000 in
theorem has_len {w : World} {N : Int} {Az : Option Addr} {lz cz m n cap : Nat} {P : Option Addr} {C : Mat} (h0 : 0 < m) (hl : n + 1 ≠ m)
    (K : ∀ W, Below w.heap.size w W → Calls Tryz.prog 34 #[zoneV N Az lz cz] W (RetC W m (some C))) :
    Calls Tryz.prog 31 #[zoneV N Az lz cz, .slice P n cap] w (RetB w false) := by
  have HT := Lib.hid (hs_new w (.int .i64 N) (.slice Az lz cz) (.slice P n cap) (.bool false))
  have HB := Lib.hid HT.out.2.2.2
  have HK := Lib.hid K
  have e1 : rlen m (some C) = m * m := rfl
  have e2 := sq_pos h0
  have e3 : ((n : Int) == (m : Int) - 1) = false := by simp; omega
  have e4 : ((n : Int) != (m : Int) - 1) = true := by simp; omega
  have e5 : decide ((n : Int) = (m : Int) - 1) = false := decide_eq_false (by omega)
  have HL := Lib.hid hl
  clear hl
  clear K
  refine (callsIn_wide (n := 3)).1 ?_
  refine callsIn_of_wp_marks Tryz.func31 rfl trivial ?_ rfl
  simp only [Tryz.ntmps31, List.size_toArray, List.length_cons, List.length_nil, Nat.reduceAdd, Nat.reduceSub, Array.replicate_succ, Array.replicate_zero, List.push_toArray, List.append_toArray, List.nil_append, List.cons_append]
  refine wpIn_wide.2 ?_
  go_wp2_with (first
    | (go_at_call 34; ((with_reducible refine (HK.out _ HB.out).mono ?_); rintro e w1 ⟨A, c1, rfl, hz1, hb1⟩); have hF1 : Hs w w1 _ _ _ _ := Hs.below HT.out hb1; have y0 := hF1.1.cell0; have y1 := hF1.1.cell1; have y4 := hF1.1.frozen0; have y5 := hF1.1.frozen1)
    | (go_at_call 35; ((with_reducible refine (none_any _ _ _ _ _).mono ?_); rintro e w3 ⟨rfl, hb3⟩); have hF2 := (hF1.set (.int .i64 ((m : Int) - 1)) (.slice A (m * m) c1)).below hb3; have p0 := hF2.1.cell0; have p1 := hF2.1.cell1; have p2 := hF2.2.1.cell; have r0 := hF2.2.2.1.cell; have r1 := hF2.2.2.1.frozen; have HB2 := Lib.hid hF2.2.2.2))
  exact has_leaves (r := false) (Ds := []) (by have := hF2.2.2.1.lt; simp; omega) (marks_nil _ _) (hF2.2.2.1.set (.bool false)) (hF2.2.2.2.setCell (p := ⟨w.heap.size + 1 + 1, 0, none⟩) (by simp; omega) (.bool false)) rfl

set_option maxRecDepth 100000 in
set_option maxHeartbeats 1600000 in
theorem has_out {w : World} {N : Int} {Az : Option Addr} {lz cz m n cap : Nat} {P : Option Addr} {C : Mat} {b off : Nat} {f : Nat → Int} (h0 : 0 < m) (hP : P = some ⟨b, off, none⟩) (hn : n ≤ 100) (hb : b < w.heap.size) (hc : ∀ k, k < n → w.cell? ⟨b, off + k, none⟩ = some (.int .i64 (f k))) (hlen : n + 1 = m) (hout : anyOut n f = true)
    (K : ∀ W, Below w.heap.size w W → Calls Tryz.prog 34 #[zoneV N Az lz cz] W (RetC W m (some C))) :
    Calls Tryz.prog 31 #[zoneV N Az lz cz, .slice P n cap] w (RetB w false) := by
  subst hP
  have HT := Lib.hid (hs_new w (.int .i64 N) (.slice Az lz cz) (.slice (some ⟨b, off, none⟩) n cap) (.bool false))
  have HB := Lib.hid HT.out.2.2.2
  have HK := Lib.hid K
  have HCon := Lib.hid (fun (X : World) (hX : Below w.heap.size w X) => contains_any b off n cap f X hn (Nat.lt_of_lt_of_le hb hX.size) (fun k hk => (hX.cell (p := ⟨b, off + k, none⟩) hb).trans (hc k hk)))
  rw [hout] at HCon
  clear hc hout
  have e1 : rlen m (some C) = m * m := rfl
  have e2 := sq_pos h0
  have e3 : ((n : Int) == (m : Int) - 1) = true := by simp; omega
  have e4 : ((n : Int) != (m : Int) - 1) = false := by simp; omega
  have e5 : decide ((n : Int) = (m : Int) - 1) = true := decide_eq_true (by omega)
  clear K
  refine (callsIn_wide (n := 3)).1 ?_
  refine callsIn_of_wp_marks Tryz.func31 rfl trivial ?_ rfl
  simp only [Tryz.ntmps31, List.size_toArray, List.length_cons, List.length_nil, Nat.reduceAdd, Nat.reduceSub, Array.replicate_succ, Array.replicate_zero, List.push_toArray, List.append_toArray, List.nil_append, List.cons_append]
  refine wpIn_wide.2 ?_
  go_wp2_with (first
    | (go_at_call 34; ((with_reducible refine (HK.out _ HB.out).mono ?_); rintro e w1 ⟨A, c1, rfl, hz1, hb1⟩); have hF1 : Hs w w1 _ _ _ _ := Hs.below HT.out hb1; have y0 := hF1.1.cell0; have y1 := hF1.1.cell1; have y4 := hF1.1.frozen0; have y5 := hF1.1.frozen1)
    | (go_at_call 35; ((with_reducible refine (none_any _ _ _ _ _).mono ?_); rintro e w3 ⟨rfl, hb3⟩); have hF2 := (hF1.set (.int .i64 ((m : Int) - 1)) (.slice A (m * m) c1)).below hb3; have p0 := hF2.1.cell0; have p1 := hF2.1.cell1; have p2 := hF2.2.1.cell; have r0 := hF2.2.2.1.cell; have r1 := hF2.2.2.1.frozen; have HB2 := Lib.hid hF2.2.2.2)
    | (go_at_call 71; ((with_reducible refine (HCon.out _ HB2.out).mono ?_); rintro e w4 ⟨rfl, hb4⟩); have hF3 := hF2.below hb4; have q0 := hF3.2.2.1.cell; have q1 := hF3.2.2.1.frozen))
  exact has_leaves (r := false) (Ds := []) (by have := hF3.2.2.1.lt; simp; omega) (marks_nil _ _) (hF3.2.2.1.set (.bool false)) (hF3.2.2.2.setCell (p := ⟨w.heap.size + 1 + 1, 0, none⟩) (by simp; omega) (.bool false)) rfl

/-- Has, whatever the numbers are. -/
def hasO (m n : Nat) (f : Nat → Int) : Option Mat → Bool
  | none => false
  | some C => decide (n + 1 = m) && (!anyOut n f && leB m (pmat (vof f)) C)
theorem has_any {w : World} {N : Int} {Az : Option Addr} {lz cz m b off n cap : Nat} {f : Nat → Int} {R : Option Mat} (h0 : 0 < m) (h7 : m ≤ 7) (hb : b < w.heap.size) (hc : ∀ k, k < n → w.cell? ⟨b, off + k, none⟩ = some (.int .i64 (f k)))
    (K : ∀ W, Below w.heap.size w W → Calls Tryz.prog 34 #[zoneV N Az lz cz] W (RetC W m R)) :
    Calls Tryz.prog 31 #[zoneV N Az lz cz, .slice (some ⟨b, off, none⟩) n cap] w (RetB w (hasO m n f R)) := by
  cases R with
  | none => exact has_none K
  | some C =>
    by_cases hl : n + 1 = m
    · cases ho : anyOut n f
      · have e : hasO m n f (some C) = leB m (pmat (vof f)) C := by
          show (decide (n + 1 = m) && (!anyOut n f && leB m (pmat (vof f)) C)) = _
          rw [ho, decide_eq_true hl]; rfl
        rw [e]
        exact has_pts h0 h7 (by omega) hb hc hl ho K
      · have e : hasO m n f (some C) = false := by
          show (decide (n + 1 = m) && (!anyOut n f && leB m (pmat (vof f)) C)) = _
          rw [ho, decide_eq_true hl]; rfl
        rw [e]
        exact has_out (P := some ⟨b, off, none⟩) h0 rfl (by omega) hb hc hl ho K
    · have e : hasO m n f (some C) = false := by
        show (decide (n + 1 = m) && (!anyOut n f && leB m (pmat (vof f)) C)) = _
        rw [decide_eq_false hl]; rfl
      rw [e]
      exact has_len h0 hl K
end Go.Proofs.YtlddelnbjihhgaaGreatDoor
