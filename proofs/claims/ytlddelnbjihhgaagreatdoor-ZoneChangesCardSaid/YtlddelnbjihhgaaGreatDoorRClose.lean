/- The contract of the document's Close, and of Clean: any zone is taken as the program takes it. -/
import Derived.Test.YtlddelnbjihhgaaGreatDoorRShrink
import Derived.Test.YtlddelnbjihhgaaGreatDoorTwo
namespace Go.Proofs.YtlddelnbjihhgaaGreatDoor
open Go.RowKit
attribute [local go_sem ↓] Go.wp_at_zero Go.wp_at_succ

theorem shrN_cap {m : Nat} {A : Mat} : ∀ (r i j : Nat), shrN m A r i j ≤ cap A i j
  | 0, _, _ => Int.le_refl _
  | r + 1, i, j => Int.le_trans (shrN_mono r i j) (shrN_cap r i j)
theorem shrN_in {m : Nat} {A : Mat} {r : Nat} (h : Fits m (shrN m A r)) : InR m (shrN m A r) := fun i j hi hj => by
  have h1 := h i j hi hj
  have h2 := shrN_cap (m := m) (A := A) r i j
  have h3 := (cap_le A i j).2
  have h4 := far_nonneg i j
  omega
/-- The first bounds, row by row. -/
def flatUp (m : Nat) (C : Mat) (t : Nat) : List Int := (List.range t).map fun t => C (t / m) (t % m)
theorem flatUp_len (m : Nat) (C : Mat) (t : Nat) : (flatUp m C t).length = t := by unfold flatUp; simp
theorem flatUp_succ {m : Nat} (C : Mat) {i j : Nat} (hj : j < m) : flatUp m C (i * m + j + 1) = flatUp m C (i * m + j) ++ [C i j] := by
  unfold flatUp
  rw [List.range_succ, List.map_append]
  congr 1
  show [C ((i * m + j) / m) ((i * m + j) % m)] = _
  rw [Nat.mul_comm i m, Nat.mul_add_div (by omega), Nat.mul_add_mod, Nat.div_eq_of_lt hj, Nat.mod_eq_of_lt hj, Nat.add_zero]
/-- While Close goes: its three boxes. -/
structure CS (W : World) (m : Nat) (z v : Value) (wr : World) : Prop where
  zb : Duo wr W.heap.size 24 (.int .i64 ((m : Int) - 1)) z
  rb : Duo wr (W.heap.size + 1) 24 (.int .i64 0) (.slice none 0 0)
  ob : Duo wr (W.heap.size + 2) 24 (.int .i64 ((m : Int) - 1)) v
  low : Below W.heap.size W wr
section
variable {W wr W1 : World} {m n : Nat} {z v v' : Value} {xs : List Value}
theorem CS.below (h : CS W m z v wr) (hb : Below wr.heap.size wr W1) : CS W m z v W1 := ⟨h.zb.below hb, h.rb.below hb, h.ob.below hb, h.low.trans (hb.mono h.low.size)⟩
/-- A row of the call's own grew, or a new one was made. -/
theorem CS.grown {base : Nat} (h : CS W m z v wr) (hr : wr.ownsRow base 3 1 v' n xs) (hb : W.heap.size ≤ base) (hg : wr.grownBy W1 v'.ownBlock) : CS W m z v W1 :=
  ⟨h.zb.kept hg (h.zb.not_row (by decide) hr), h.rb.kept hg (h.rb.not_row (by decide) hr), h.ob.kept hg (h.ob.not_row (by decide) hr), h.low.grown hg h.low.size fun k hk => Nat.le_trans hb (hr.lt k hk).1⟩
theorem CS.put (h : CS W m z v wr) (v' : Value) : CS W m z v' (wr.setCell ⟨W.heap.size + 2, 1, none⟩ v') :=
  ⟨h.zb.other (by show W.heap.size ≠ W.heap.size + 2; omega) _, h.rb.other (by show W.heap.size + 1 ≠ W.heap.size + 2; omega) _, h.ob.set1 _, h.low.setCell (p := ⟨W.heap.size + 2, 1, none⟩) (by show W.heap.size ≤ W.heap.size + 2; omega) _⟩
theorem CS.put2 (h : CS W m z v wr) (v' : Value) : CS W m z v' ((wr.setCell ⟨W.heap.size + 2, 0, none⟩ (.int .i64 ((m : Int) - 1))).setCell ⟨W.heap.size + 2, 1, none⟩ v') :=
  ⟨(h.zb.other (by show W.heap.size ≠ W.heap.size + 2; omega) _).other (by show W.heap.size ≠ W.heap.size + 2; omega) _, (h.rb.other (by show W.heap.size + 1 ≠ W.heap.size + 2; omega) _).other (by show W.heap.size + 1 ≠ W.heap.size + 2; omega) _, (h.ob.set0 _).set1 _, (h.low.setCell (p := ⟨W.heap.size + 2, 0, none⟩) (by show W.heap.size ≤ W.heap.size + 2; omega) _).setCell (p := ⟨W.heap.size + 2, 1, none⟩) (by show W.heap.size ≤ W.heap.size + 2; omega) _⟩
theorem CS.step {w6 : World} {o : Obj} {ys : List Value} {k : Nat} (h : CS W m z v wr) (hr : wr.ownsRow W.heap.size 3 1 v n xs) (ho : w6.ownsRow W.heap.size 3 1 v' k ys) (hg : (wr.alloc o).grownBy w6 v.ownBlock) : CS W m z v w6 ∧ CS W m z v' (w6.setCell ⟨W.heap.size + 2, 1, none⟩ v') ∧ (w6.setCell ⟨W.heap.size + 2, 1, none⟩ v').ownsRow W.heap.size 3 1 v' k ys := by
  have h6 := (h.below (zboxed wr o)).grown (own_kept_below hr (zboxed wr o)) (Nat.le_refl _) hg
  exact ⟨h6, h6.put v', ho.kept (duo_grown_setCell w6 ⟨W.heap.size + 2, 1, none⟩ v') (.inr (h6.ob.not_row (by decide) ho).symm)⟩
theorem CS.cells (h : CS W m z v wr) : (wr.cell? ⟨W.heap.size, 0, none⟩ = some (.int .i64 ((m : Int) - 1)) ∧ wr.cell? ⟨W.heap.size, 1, none⟩ = some z ∧ W.heap.size < wr.heap.size) ∧ (wr.cell? ⟨W.heap.size + 2, 0, none⟩ = some (.int .i64 ((m : Int) - 1)) ∧ wr.cell? ⟨W.heap.size + 2, 1, none⟩ = some v ∧ W.heap.size + 2 < wr.heap.size) ∧ wr.frozen? ⟨W.heap.size + 2, 0, none⟩ = false ∧ wr.frozen? ⟨W.heap.size + 2, 1, none⟩ = false :=
  ⟨⟨h.zb.cell0, h.zb.cell1, h.zb.lt⟩, ⟨h.ob.cell0, h.ob.cell1, h.ob.lt⟩, h.ob.frozen0, h.ob.frozen1⟩
theorem CS.res (h : CS W m z v wr) : (wr.cell? ⟨W.heap.size + 1, 0, none⟩ = some (.int .i64 0) ∧ wr.cell? ⟨W.heap.size + 1, 1, none⟩ = some (.slice none 0 0)) ∧ wr.frozen? ⟨W.heap.size + 1, 0, none⟩ = false ∧ wr.frozen? ⟨W.heap.size + 1, 1, none⟩ = false ∧ W.heap.size + 1 < wr.heap.size := ⟨⟨h.rb.cell0, h.rb.cell1⟩, h.rb.frozen0, h.rb.frozen1, h.rb.lt⟩
end
section
variable {W : World} {N : Int} {A : Option Addr} {len cp : Nat} {f : Nat → Int}
set_option maxRecDepth 100000 in
/-- What may not be, or has not as many bounds as it should. -/
theorem rclose_bad (hbad : mayB N = false ∨ (mayB N = true ∧ len ≠ zm N * zm N)) : Calls Tryz.prog 33 #[zoneV N A len cp] W (RetC W (zm N) none) := by
  have hb := (zboxed W (.cells #[.int .i64 N, .slice A len cp] 24)).trans ((zboxed (W.alloc (.cells #[.int .i64 N, .slice A len cp] 24)) (.cells #[.int .i64 0, .slice none 0 0] 24)).mono (by simp))
  have k0 := (Duo.new W 24 (.int .i64 N) (.slice A len cp)).alloc (.cells #[.int .i64 0, .slice none 0 0] 24)
  have k1 := Duo.new (W.alloc (.cells #[.int .i64 N, .slice A len cp] 24)) 24 (.int .i64 0) (.slice none 0 0)
  rw [World.size_alloc] at k1
  obtain ⟨W2, hW2⟩ : ∃ W2, (W.alloc (.cells #[.int .i64 N, .slice A len cp] 24)).alloc (.cells #[.int .i64 0, .slice none 0 0] 24) = W2 := ⟨_, rfl⟩
  rw [hW2] at hb k0 k1
  have c0 := k0.cell0
  have c1 := k0.cell1
  have c2 := k0.lt
  have HBt : Hid (∀ W, Calls Tryz.prog 24 #[.int .i64 N] W (RetBot (((zm N : Nat) : Int) - 1) W)) := Lib.hid fun W => by
    have h := rbottom_any N W
    have e : botN N = ((zm N : Nat) : Int) - 1 := by
      unfold botN zm
      cases hm : mayB N
      · simp
      · have := (mayB_iff N).1 hm; simp; omega
    rw [e] at h
    exact h
  have HK := Lib.hid (And.intro k1 hb)
  obtain ⟨M, hM⟩ : ∃ M : Int, ((zm N : Nat) : Int) - 1 = M := ⟨_, rfl⟩
  have HEnd : Hid (∀ w6, Below W2.heap.size W2 w6 → ((w6.cell? ⟨W.heap.size + 1, 0, none⟩ = some (.int .i64 0) ∧ w6.cell? ⟨W.heap.size + 1, 1, none⟩ = some (.slice none 0 0)) ∧ w6.frozen? ⟨W.heap.size + 1, 0, none⟩ = false ∧ w6.frozen? ⟨W.heap.size + 1, 1, none⟩ = false ∧ W.heap.size + 1 < w6.heap.size) ∧
      Duo ((w6.setCell ⟨W.heap.size + 1, 0, none⟩ (.int .i64 M)).setCell ⟨W.heap.size + 1, 1, none⟩ (.slice none 0 0)) (W.heap.size + 1) 24 (.int .i64 M) (.slice none 0 0) ∧ RetC W (zm N) none (.returned (zoneV M none 0 0)) ((w6.setCell ⟨W.heap.size + 1, 0, none⟩ (.int .i64 M)).setCell ⟨W.heap.size + 1, 1, none⟩ (.slice none 0 0))) := Lib.hid fun w6 h6 => by
    have k := HK.out.1.below h6
    have hp := res_put k (HK.out.2.trans (h6.mono HK.out.2.size)) (by omega) (.int .i64 M) (.slice none 0 0)
    exact ⟨⟨⟨k.cell0, k.cell1⟩, k.frozen0, k.frozen1, k.lt⟩, hp.1, none, 0, by rw [hM]; rfl, rfl, hp.2⟩
  rw [hM] at HBt
  clear hb k0 k1 hM
  rcases hbad with hm | ⟨hm, hl⟩
  · have hm' : ¬ (0 ≤ N ∧ N ≤ 6) := fun h => by rw [(mayB_iff N).2 h] at hm; cases hm
    have hr2 : N < 0 ∨ (0 ≤ N ∧ 6 < N) := by omega
    clear hm hm'
    rcases hr2 with h1 | ⟨h1, h2⟩
    · have hd : decide (N < 0) = true := decide_eq_true h1
      go_enter Tryz.func33, Tryz.ntmps33
      go_wp2_with (go_at_call 24; ((with_reducible refine (HBt.out _).mono ?_); rintro e w6 ⟨rfl, hb6⟩); obtain ⟨⟨⟨r0, r1⟩, r2, r3, r4⟩, r5, r6⟩ := HEnd.out w6 hb6; have r7 := r5.cell0; have r8 := r5.cell1; have HR6 := Lib.hid r6; clear r5 r6 hb6)
      exact bodyPost_ret (v := zoneV M none 0 0) (by simp [results, Tryz.results33, go_sem, r7, r8]) rfl HR6.out
    · have hd : decide (N < 0) = false := decide_eq_false (by omega)
      have hd2 : decide (6 < N) = true := decide_eq_true h2
      go_enter Tryz.func33, Tryz.ntmps33
      go_wp2_with (go_at_call 24; ((with_reducible refine (HBt.out _).mono ?_); rintro e w6 ⟨rfl, hb6⟩); obtain ⟨⟨⟨r0, r1⟩, r2, r3, r4⟩, r5, r6⟩ := HEnd.out w6 hb6; have r7 := r5.cell0; have r8 := r5.cell1; have HR6 := Lib.hid r6; clear r5 r6 hb6)
      exact bodyPost_ret (v := zoneV M none 0 0) (by simp [results, Tryz.results33, go_sem, r7, r8]) rfl HR6.out
  · have hN := (mayB_iff N).1 hm
    obtain ⟨h1, h2⟩ := hN
    have hz : ((zm N : Nat) : Int) = N + 1 := by have := zm_may hm; omega
    have h7 := (zm_bd N).2
    have hq0 : (N + 1) * (N + 1) = ((zm N * zm N : Nat) : Int) := by rw [Int.natCast_mul, hz]
    have hq1 : ((len : Nat) : Int) ≠ (N + 1) * (N + 1) := by rw [hq0]; omega
    have hq : (((len : Nat) : Int) == (N + 1) * (N + 1)) = false := by simpa using hq1
    have hq2 : 0 ≤ (N + 1) * (N + 1) ∧ (N + 1) * (N + 1) ≤ 49 := by
      rw [hq0]
      have : zm N * zm N ≤ 7 * 7 := Nat.mul_le_mul h7 h7
      omega
    have hw0 : IntKind.i64.wrap (N + 1) = N + 1 := IntWalk.i64_in _ (by omega)
    have hw1 : IntKind.i64.wrap ((N + 1) * (N + 1)) = (N + 1) * (N + 1) := IntWalk.i64_in _ (by omega)
    have hd : decide (N < 0) = false := decide_eq_false (by omega)
    have hd2 : decide (6 < N) = false := decide_eq_false (by omega)
    clear hm hl hz hq0
    go_enter Tryz.func33, Tryz.ntmps33
    go_wp2_with (go_at_call 24; ((with_reducible refine (HBt.out _).mono ?_); rintro e w6 ⟨rfl, hb6⟩); obtain ⟨⟨⟨r0, r1⟩, r2, r3, r4⟩, r5, r6⟩ := HEnd.out w6 hb6; have r7 := r5.cell0; have r8 := r5.cell1; have HR6 := Lib.hid r6; clear r5 r6 hb6)
    exact bodyPost_ret (v := zoneV M none 0 0) (by simp [results, Tryz.results33, go_sem, r7, r8]) rfl HR6.out
end
section
variable {W : World} {m b off cp : Nat} {f : Nat → Int}
theorem one_row (W : World) (x : Int) : RowAt (W.alloc (.cells #[.int .i64 x] 3)) (.slice (some ⟨W.heap.size, 0, none⟩) 1 1) 1 [.int .i64 x] :=
  rowAt_own (World.ownsRow_lit (base := 0) (e := 3) (size := 1) W #[.int .i64 x] 1 (Nat.zero_le _) (by unfold maxLen; omega) rfl)
theorem one_int (x : Int) : ∀ u ∈ [Value.int .i64 x], u.oneCell' = true := fun u hu => by
  rw [List.mem_singleton] at hu
  subst hu
  rfl
set_option maxRecDepth 100000 in
set_option maxHeartbeats 6400000 in
theorem rclose_good (h0 : 0 < m) (h7 : m ≤ 7) (hbk : b < W.heap.size) (hcell : ∀ t, t < m * m → W.cell? ⟨b, off + t, none⟩ = some (.int .i64 (f t))) (hcp : m * m ≤ cp) {R : Option Mat} (hR1 : Alive m (nearM m f) → R = some (lev (nearM m f) m)) (hR2 : ¬ Alive m (nearM m f) → R = none) :
    Calls Tryz.prog 33 #[zoneV ((m : Int) - 1) (some ⟨b, off, none⟩) (m * m) cp] W (RetC W m R) := by
  obtain ⟨i0, hi, hz0, hz1, hz2⟩ := info_parts zinfo3
  have HI0 := Lib.hid (And.intro hi (And.intro hz0 (And.intro hz1 hz2)))
  have hmm : 0 < m * m := Nat.mul_pos h0 h0
  have hmm2 : m * m ≤ 49 := Nat.mul_le_mul h7 h7
  obtain ⟨A, hA⟩ : ∃ A, nearM m f = A := ⟨_, rfl⟩
  rw [hA] at hR1 hR2
  have HA : Hid (∀ i j, i < m → j < m → cap A i j = min (nearZ (f (i * m + j))) (far i j)) := Lib.hid fun i j _ _ => by rw [← hA]; rfl
  have HR := Lib.hid (And.intro hR1 hR2)
  have k0 := ((Duo.new W 24 (.int .i64 ((m : Int) - 1)) (.slice (some ⟨b, off, none⟩) (m * m) cp)).alloc (.cells #[.int .i64 0, .slice none 0 0] 24)).alloc (.cells #[.int .i64 ((m : Int) - 1), .slice none 0 0] 24)
  have k1 := (Duo.new (W.alloc (.cells #[.int .i64 ((m : Int) - 1), .slice (some ⟨b, off, none⟩) (m * m) cp] 24)) 24 (.int .i64 0) (.slice none 0 0)).alloc (.cells #[.int .i64 ((m : Int) - 1), .slice none 0 0] 24)
  have k2 := Duo.new ((W.alloc (.cells #[.int .i64 ((m : Int) - 1), .slice (some ⟨b, off, none⟩) (m * m) cp] 24)).alloc (.cells #[.int .i64 0, .slice none 0 0] 24)) 24 (.int .i64 ((m : Int) - 1)) (.slice none 0 0)
  have hb2 := (zboxed W (.cells #[.int .i64 ((m : Int) - 1), .slice (some ⟨b, off, none⟩) (m * m) cp] 24)).trans ((zboxed (W.alloc (.cells #[.int .i64 ((m : Int) - 1), .slice (some ⟨b, off, none⟩) (m * m) cp] 24)) (.cells #[.int .i64 0, .slice none 0 0] 24)).mono (by simp))
  have hb3 := hb2.trans ((zboxed ((W.alloc (.cells #[.int .i64 ((m : Int) - 1), .slice (some ⟨b, off, none⟩) (m * m) cp] 24)).alloc (.cells #[.int .i64 0, .slice none 0 0] 24)) (.cells #[.int .i64 ((m : Int) - 1), .slice none 0 0] 24)).mono (by simp; omega))
  simp only [World.size_alloc] at k1 k2
  obtain ⟨W2, hW2⟩ : ∃ W2, (W.alloc (.cells #[.int .i64 ((m : Int) - 1), .slice (some ⟨b, off, none⟩) (m * m) cp] 24)).alloc (.cells #[.int .i64 0, .slice none 0 0] 24) = W2 := ⟨_, rfl⟩
  have hs2 : W2.heap.size = W.heap.size + 2 := by rw [← hW2]; simp
  rw [hW2] at k0 k1 k2 hb2 hb3
  have c0 : W2.cell? ⟨W.heap.size, 0, none⟩ = some (.int .i64 ((m : Int) - 1)) := by
    rw [← hW2]
    exact ((Duo.new W 24 (.int .i64 ((m : Int) - 1)) (.slice (some ⟨b, off, none⟩) (m * m) cp)).alloc (.cells #[.int .i64 0, .slice none 0 0] 24)).cell0
  have c1 : W2.cell? ⟨W.heap.size, 1, none⟩ = some (.slice (some ⟨b, off, none⟩) (m * m) cp) := by
    rw [← hW2]
    exact ((Duo.new W 24 (.int .i64 ((m : Int) - 1)) (.slice (some ⟨b, off, none⟩) (m * m) cp)).alloc (.cells #[.int .i64 0, .slice none 0 0] 24)).cell1
  have c2 : W.heap.size < W2.heap.size := by omega
  have HS0 : Hid (CS W m (.slice (some ⟨b, off, none⟩) (m * m) cp) (.slice none 0 0) (W2.alloc (.cells #[.int .i64 ((m : Int) - 1), .slice none 0 0] 24))) := Lib.hid ⟨k0, k1, k2, hb3⟩
  have HCell : Hid (∀ W1, Below W.heap.size W W1 → ∀ t, t < m * m → W1.cell? ⟨b, off + t, none⟩ = some (.int .i64 (f t)) ∧ b < W1.heap.size) := Lib.hid fun W1 h1 t ht => ⟨(h1.cell (p := ⟨b, off + t, none⟩) hbk).trans (hcell t ht), Nat.lt_of_lt_of_le hbk h1.size⟩
  have HBt : Hid (∀ W, Calls Tryz.prog 24 #[.int .i64 ((m : Int) - 1)] W (RetBot ((m : Int) - 1) W)) := Lib.hid fun W => by
    have h := rbottom_any ((m : Int) - 1) W
    unfold botN at h
    rw [if_pos ((mayB_iff _).2 (by omega))] at h
    exact h
  have hd : decide ((m : Int) - 1 < 0) = false := decide_eq_false (by omega)
  have hd2 : decide (6 < (m : Int) - 1) = false := decide_eq_false (by omega)
  have hq0 : ((m * m : Nat) : Int) = (m : Int) * (m : Int) := Int.natCast_mul m m
  have hq1 : 0 ≤ (m : Int) * (m : Int) ∧ (m : Int) * (m : Int) ≤ 49 := by rw [← hq0]; omega
  have hw1 : IntKind.i64.wrap ((m : Int) * (m : Int)) = (m : Int) * (m : Int) := IntWalk.i64_in _ (by omega)
  have hq : (((m * m : Nat) : Int) == (m : Int) * (m : Int)) = true := by rw [hq0]; simp
  clear hA hR1 hR2 k0 k1 k2 hb2 hb3 hcell hbk hi hz0 hz1 hz2 hmm
  go_enter Tryz.func33, Tryz.ntmps33
  go_wp2_with fail
  obtain ⟨W3, hW3⟩ : ∃ W3, W2.alloc (.cells #[.int .i64 ((m : Int) - 1), .slice none 0 0] 24) = W3 := ⟨_, rfl⟩
  rw [hW3] at HS0 ⊢
  clear hW3 hW2 hs2 c0 c1 c2
  go_loopg [5] m (fun gk t5 wr => ∃ (i : Nat) (v : Value), i + gk = m ∧ t5 = .int .i64 (i : Int) ∧ CS W m (.slice (some ⟨b, off, none⟩) (m * m) cp) v wr ∧ wr.ownsRow W.heap.size 3 1 v (i * m + 0) ((flatUp m (Go.Proofs.YtlddelnbjihhgaaGreatDoor.cap A) (i * m + 0)).map (Value.int .i64)) ∧ FitUp m (Go.Proofs.YtlddelnbjihhgaaGreatDoor.cap A) i 0)
  case atStart => exact ⟨0, _, by omega, rfl, HS0.out, by simp only [Nat.zero_mul]; exact World.ownsRow_nil _ _ _ _, fitUp_zero _ _⟩
  case round =>
    rename Nat => g0
    obtain ⟨i, v, hi, rfl, hS, hV, hF⟩ := hrel
    have HI := Lib.hid hi
    have HS := Lib.hid hS
    have HV := Lib.hid hV
    have HF := Lib.hid hF
    clear hi hS hV hF HS0
    by_cases him : i < m
    · go_wp2_with fail
      go_loopg [6] m (fun gk t6 wr => ∃ (j : Nat) (v : Value), j + gk = m ∧ t6 = .int .i64 (j : Int) ∧ CS W m (.slice (some ⟨b, off, none⟩) (m * m) cp) v wr ∧ wr.ownsRow W.heap.size 3 1 v (i * m + j) ((flatUp m (Go.Proofs.YtlddelnbjihhgaaGreatDoor.cap A) (i * m + j)).map (Value.int .i64)) ∧ FitUp m (Go.Proofs.YtlddelnbjihhgaaGreatDoor.cap A) i j)
      case atStart => exact ⟨0, _, by omega, rfl, HS.out, HV.out, HF.out⟩
      case round =>
        rename Nat => g1
        clear HS HV HF
        obtain ⟨j, v, hj, rfl, hS, hV, hF⟩ := hrel
        have HJ := Lib.hid hj
        have HS := Lib.hid hS
        have HF := Lib.hid hF
        clear hj hS hF
        by_cases hjm : j < m
        · obtain ⟨e1, e2, e3, e4⟩ := mul_idx h7 him hjm
          have hC := HA.out i j him hjm
          have HUp : Hid (flatUp m (Go.Proofs.YtlddelnbjihhgaaGreatDoor.cap A) (i * m + j + 1) = flatUp m (Go.Proofs.YtlddelnbjihhgaaGreatDoor.cap A) (i * m + j) ++ [Go.Proofs.YtlddelnbjihhgaaGreatDoor.cap A i j]) := Lib.hid (flatUp_succ _ hjm)
          have hff := far_nonneg i j
          have hpb := nearZ_bd (f (i * m + j))
          have HMo := Lib.hid (fun W => rmost_any i j W)
          have HNr := Lib.hid (fun W => rnear_any (f (i * m + j)) W)
          have hcf := HCell.out _ HS.out.low _ e4
          have HFx : Hid (-far i j ≤ Go.Proofs.YtlddelnbjihhgaaGreatDoor.cap A i j → FitUp m (Go.Proofs.YtlddelnbjihhgaaGreatDoor.cap A) i (j + 1)) := Lib.hid fun hx => fitUp_step HF.out hx
          have HNo : Hid (Go.Proofs.YtlddelnbjihhgaaGreatDoor.cap A i j < -far i j → ¬ Alive m A) := Lib.hid fun hx => not_alive_cap him hjm hx
          obtain ⟨F, hFe⟩ : ∃ F, far i j = F := ⟨_, rfl⟩
          obtain ⟨x, hx⟩ : ∃ x, f (i * m + j) = x := ⟨_, rfl⟩
          obtain ⟨p, hp⟩ : ∃ p, nearZ x = p := ⟨_, rfl⟩
          obtain ⟨n, hn⟩ : ∃ n, Go.Proofs.YtlddelnbjihhgaaGreatDoor.cap A i j = n := ⟨_, rfl⟩
          rw [hx, hp, hn, hFe] at hC
          rw [hFe] at hff HMo HFx HNo
          rw [hx, hp] at hpb HNr
          rw [hn] at HUp HFx HNo
          rw [hx] at hcf
          obtain ⟨t, ht⟩ : ∃ t, i * m + j = t := ⟨_, rfl⟩
          rw [ht] at e1 e4 hcf HUp hV
          have HT := Lib.hid ht
          have HV := Lib.hid hV
          obtain ⟨⟨c0, c1, c2⟩, ⟨c3, c4, c5⟩, c6, c7⟩ := HS.out.cells
          obtain ⟨c8, c9⟩ := hcf
          have e5 : (t : Int) < ((m * m : Nat) : Int) := by omega
          have e6 : (t : Int) < (m : Int) * (m : Int) := by rw [← Int.natCast_mul]; exact e5
          have hw2 : IntKind.i64.wrap ((i : Int) * (m : Int)) = (i : Int) * (m : Int) := IntWalk.i64_in _ (by omega)
          have hw3 : IntKind.i64.wrap ((i : Int) * (m : Int) + (j : Int)) = (t : Int) := by rw [e1]; exact IntWalk.i64_in _ (by omega)
          have hw4 : IntKind.i64.wrap (-F) = -F := IntWalk.i64_in _ (by omega)
          have HBd : Hid (t + 1 ≤ maxLen ∧ (t + 1) * 8 ≤ 140737488355328 ∧ W.heap.size ≤ (wr.alloc (.cells #[.int .i64 n] 3)).heap.size) := Lib.hid (by rw [World.size_alloc]; have := HS.out.low.size; unfold maxLen; omega)
          obtain ⟨hi, hz0, hz1, hz2⟩ := HI0.out
          clear hFe hx hp hn ht hV
          by_cases hlt : F < p
          · have hd3 : decide (F < p) = true := decide_eq_true hlt
            obtain rfl : n = F := by omega
            have hd4 : decide (n < -n) = false := decide_eq_false (by omega)
            clear hC
            go_wp2_with (first
              | (go_at_call 76; ((with_reducible refine (HNr.out _).mono ?_); rintro e w1 ⟨rfl, rfl⟩))
              | (go_at_call 77; ((with_reducible refine (HMo.out _).mono ?_); rintro e w1 ⟨rfl, rfl⟩))
              | (at_builtin; refine wpList_append_rows rfl _ _ 22 rfl W.heap.size 3 i0 (.int .i64 0) 1 8 Tryz.underlying22 hi hz0 hz1 hz2 rfl (by decide) _ _ _ rfl (own_kept_below HV.out (zboxed _ _)) _ 1 [.int .i64 n] rfl (one_row _ _) rfl (one_int _) HBd.out.1 HBd.out.2.1 HBd.out.2.2 ?_; intro v6 w6 ho hg hv; obtain ⟨gr, cr, hv6, -⟩ := row_pos ho (Nat.succ_pos _); subst hv6; have H6 := Lib.hid (HS.out.step HV.out ho hg); obtain ⟨⟨q0, q1, q2⟩, ⟨q3, q4, q5⟩, q6, q7⟩ := H6.out.1.cells; clear ho hg hv))
            have H7 := Lib.hid H6.out.2
            have hj := HJ.out
            go_roundg (g1 - 1)
            case measure => omega
            case rel => exact ⟨j + 1, _, by omega, by simp, H7.out.1, by rw [← Nat.add_assoc, HT.out, HUp.out, List.map_append]; exact H7.out.2, HFx.out (by omega)⟩
          · have hd3 : decide (F < p) = false := decide_eq_false hlt
            obtain rfl : n = p := by omega
            clear hC
            by_cases hlow : n < -F
            · have hd4 : decide (n < -F) = true := decide_eq_true hlow
              go_wp2_with (first
                | (go_at_call 76; ((with_reducible refine (HNr.out _).mono ?_); rintro e w1 ⟨rfl, rfl⟩))
                | (go_at_call 77; ((with_reducible refine (HMo.out _).mono ?_); rintro e w1 ⟨rfl, rfl⟩))
                | (at_builtin; refine wpList_append_rows rfl _ _ 22 rfl W.heap.size 3 i0 (.int .i64 0) 1 8 Tryz.underlying22 hi hz0 hz1 hz2 rfl (by decide) _ _ _ rfl (own_kept_below HV.out (zboxed _ _)) _ 1 [.int .i64 n] rfl (one_row _ _) rfl (one_int _) HBd.out.1 HBd.out.2.1 HBd.out.2.2 ?_; intro v6 w6 ho hg hv; obtain ⟨gr, cr, hv6, -⟩ := row_pos ho (Nat.succ_pos _); subst hv6; have H6 := Lib.hid (HS.out.step HV.out ho hg); obtain ⟨⟨q0, q1, q2⟩, ⟨q3, q4, q5⟩, q6, q7⟩ := H6.out.1.cells; obtain ⟨⟨u0, u1, u2⟩, ⟨u3, u4, u5⟩, u6, u7⟩ := H6.out.2.1.cells; clear ho hg hv)
                | (go_at_call 24; ((with_reducible refine (HBt.out _).mono ?_); rintro e w8 ⟨rfl, hb8⟩); have H8 := Lib.hid (H6.out.2.1.below hb8); clear hb8; obtain ⟨⟨r0, r1⟩, r2, r3, r4⟩ := H8.out.res))
              obtain rfl : R = none := HR.out.2 (HNo.out hlow)
              have hp := res_put H8.out.rb H8.out.low (by omega) (.int .i64 ((m : Int) - 1)) (.slice none 0 0)
              have y0 := hp.1.cell0
              have y1 := hp.1.cell1
              exact bodyPost_ret (v := zoneV ((m : Int) - 1) none 0 0) (by simp [results, Tryz.results33, go_sem, y0, y1]) rfl ⟨none, 0, rfl, rfl, hp.2⟩
            · have hd4 : decide (n < -F) = false := decide_eq_false hlow
              go_wp2_with (first
                | (go_at_call 76; ((with_reducible refine (HNr.out _).mono ?_); rintro e w1 ⟨rfl, rfl⟩))
                | (go_at_call 77; ((with_reducible refine (HMo.out _).mono ?_); rintro e w1 ⟨rfl, rfl⟩))
                | (at_builtin; refine wpList_append_rows rfl _ _ 22 rfl W.heap.size 3 i0 (.int .i64 0) 1 8 Tryz.underlying22 hi hz0 hz1 hz2 rfl (by decide) _ _ _ rfl (own_kept_below HV.out (zboxed _ _)) _ 1 [.int .i64 n] rfl (one_row _ _) rfl (one_int _) HBd.out.1 HBd.out.2.1 HBd.out.2.2 ?_; intro v6 w6 ho hg hv; obtain ⟨gr, cr, hv6, -⟩ := row_pos ho (Nat.succ_pos _); subst hv6; have H6 := Lib.hid (HS.out.step HV.out ho hg); obtain ⟨⟨q0, q1, q2⟩, ⟨q3, q4, q5⟩, q6, q7⟩ := H6.out.1.cells; clear ho hg hv))
              have H7 := Lib.hid H6.out.2
              have hj := HJ.out
              go_roundg (g1 - 1)
              case measure => omega
              case rel => exact ⟨j + 1, _, by omega, by simp, H7.out.1, by rw [← Nat.add_assoc, HT.out, HUp.out, List.map_append]; exact H7.out.2, HFx.out (by omega)⟩
        · have hje : j = m := by have := HJ.out; omega
          subst hje
          go_wp2_with fail
          have hi := HI.out
          go_roundg (g0 - 1)
          case measure => omega
          case rel => exact ⟨i + 1, v, by omega, by simp, HS.out, by rw [show (i + 1) * j + 0 = i * j + j by rw [Nat.add_mul]; omega]; exact hV, fitUp_row HF.out⟩
    · have hie : i = m := by have := HI.out; omega
      subst hie
      have hii : 0 < i * i := Nat.mul_pos h0 h0
      have hV0 : wr.ownsRow W.heap.size 3 1 v (i * i) ((flatL i (shrN i A 0)).map (Value.int .i64)) := HV.out
      obtain ⟨go, co, rfl, hco⟩ := row_pos hV0 hii
      have HV0 := Lib.hid hV0
      have HF0 : Hid (∀ q, q ≤ 0 → Fits i (shrN i A q)) := Lib.hid fun q hq => by
        obtain rfl : q = 0 := by omega
        exact fitUp_all HF.out
      have hlen : decide ((0 : Int) < ((i * i : Nat) : Int)) = true := decide_eq_true (by omega)
      have hlen2 : decide (0 < i * i) = true := decide_eq_true hii
      have hlen3 : (0 : Int) < (i : Int) * (i : Int) := by rw [← Int.natCast_mul]; omega
      clear hV0 hco
      go_wp2_with fail
      go_loopg [8] 8 (fun gk t8 wr => ∃ (r : Nat) (v : Value), r + gk = 8 ∧ t8 = .int .i64 (r : Int) ∧ CS W i (.slice (some ⟨b, off, none⟩) (i * i) cp) v wr ∧ ((∃ go co, v = .slice (some ⟨go, 0, none⟩) (i * i) co ∧ wr.ownsRow W.heap.size 3 1 (.slice (some ⟨go, 0, none⟩) (i * i) co) (i * i) ((flatL i (shrN i A r)).map (Value.int .i64)) ∧ ∀ q, q ≤ r → Fits i (shrN i A q)) ∨ (v = .slice none 0 0 ∧ ¬ Alive i A)))
      case atStart => exact ⟨0, _, by omega, rfl, HS.out, .inl ⟨go, co, rfl, HV0.out, HF0.out⟩⟩
      case round =>
        rename Nat => g1
        clear HS HV HV0 HF HF0
        obtain ⟨r, v, hr, rfl, hS, hst⟩ := hrel
        have HRr := Lib.hid hr
        have HS := Lib.hid hS
        clear hr hS
        obtain ⟨⟨c0, c1, c2⟩, ⟨c3, c4, c5⟩, c6, c7⟩ := HS.out.cells
        obtain ⟨⟨r0, r1⟩, r2, r3, r4⟩ := HS.out.res
        rcases hst with ⟨go, co, rfl, hrow, hfit⟩ | ⟨rfl, hno⟩
        · have HRow := Lib.hid hrow
          have HFit := Lib.hid hfit
          clear hrow hfit
          by_cases hr8 : r < 8
          · have HShr := Lib.hid (rshrink_any h0 h7 (shrN_in (HFit.out r (Nat.le_refl _))) (own_lower HRow.out (Nat.zero_le _)))
            go_wp2_with (first
              | (go_at_call 78; ((with_reducible refine HShr.out.mono ?_); rintro e w6 hsh); have HSh := Lib.hid hsh; clear hsh; rcases HSh.out with ⟨hfit, go', co', rfl, hrow', hb'⟩ | ⟨hno, rfl, hb'⟩; all_goals (have H6 := Lib.hid (HS.out.below hb'); obtain ⟨⟨q0, q1, q2⟩, ⟨q3, q4, q5⟩, q6, q7⟩ := H6.out.cells)))
            · have hr := HRr.out
              go_roundg (g1 - 1)
              case measure => omega
              case rel => exact ⟨r + 1, _, by omega, by simp, H6.out.put2 _, .inl ⟨go', co', rfl, row_put H6.out.ob (own_lower hrow' HS.out.low.size) _ _, fun q hq => by
                by_cases e : q = r + 1
                · subst e; exact hfit
                · exact HFit.out q (by omega)⟩⟩
            · have hr := HRr.out
              go_roundg (g1 - 1)
              case measure => omega
              case rel => exact ⟨r + 1, _, by omega, by simp, H6.out.put2 _, .inr ⟨rfl, fun ha => hno (shrN_fits ha (r + 1))⟩⟩
          · have hr := HRr.out
            have ha : Alive i A := alive_of_fits fun q hq => HFit.out q (by omega)
            obtain rfl : R = some (lev A i) := HR.out.1 ha
            have HAl := Lib.hid ha
            clear ha
            go_wp2_with fail
            have hp := res_put HS.out.rb HS.out.low (by omega) (.int .i64 ((i : Int) - 1)) (.slice (some ⟨go, 0, none⟩) (i * i) co)
            have y0 := hp.1.cell0
            have y1 := hp.1.cell1
            have hrw := row_put HS.out.rb HRow.out (.int .i64 ((i : Int) - 1)) (.slice (some ⟨go, 0, none⟩) (i * i) co)
            rw [flat_congr (shrN_lev HAl.out r (by omega))] at hrw
            exact bodyPost_ret (v := zoneV ((i : Int) - 1) (some ⟨go, 0, none⟩) (i * i) co) (by simp [results, Tryz.results33, go_sem, y0, y1]) rfl ⟨some ⟨go, 0, none⟩, co, rfl, ⟨lev_closed HAl.out, go, co, rfl, hrw⟩, hp.2⟩
        · obtain rfl : R = none := HR.out.2 hno
          have hp := res_put HS.out.rb HS.out.low (by omega) (.int .i64 ((i : Int) - 1)) (.slice none 0 0)
          have y0 := hp.1.cell0
          have y1 := hp.1.cell1
          have HP := Lib.hid hp.2
          clear hno hp
          by_cases hr8 : r < 8
          · go_wp2_with fail
            exact bodyPost_ret (v := zoneV ((i : Int) - 1) none 0 0) (by simp [results, Tryz.results33, go_sem, y0, y1]) rfl ⟨none, 0, rfl, rfl, HP.out⟩
          · go_wp2_with fail
            exact bodyPost_ret (v := zoneV ((i : Int) - 1) none 0 0) (by simp [results, Tryz.results33, go_sem, y0, y1]) rfl ⟨none, 0, rfl, rfl, HP.out⟩
end
end Go.Proofs.YtlddelnbjihhgaaGreatDoor
