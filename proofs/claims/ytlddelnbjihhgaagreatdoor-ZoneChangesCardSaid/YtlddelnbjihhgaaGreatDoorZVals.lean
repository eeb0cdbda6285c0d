/- What the zone layer takes any zone as, plainly: how many variables, and its closed bounds, if a point is left. Nothing of the program is walked here. -/
import Derived.Test.YtlddelnbjihhgaaGreatDoorNums
import Derived.Test.YtlddelnbjihhgaaGreatDoorSettle
namespace Go.Proofs.YtlddelnbjihhgaaGreatDoor
open Go.RowKit

def zfitsB (m : Nat) (D : Mat) : Bool := (List.range m).all fun i => (List.range m).all fun j => decide (-far i j ≤ D i j)
theorem zfitsB_iff (m : Nat) (D : Mat) : zfitsB m D = true ↔ Fits m D := by
  unfold zfitsB Fits
  simp only [List.all_eq_true, List.mem_range, decide_eq_true_eq]
  exact ⟨fun h i j hi hj => h i hi j hj, fun h i hi j hj => h i j hi hj⟩
def aliveB (m : Nat) (A : Mat) : Bool := zfitsB m (cap A) && (List.range m).all fun k => zfitsB m (fun i j => lev A k i k + lev A k k j)
theorem aliveB_iff (m : Nat) (A : Mat) : aliveB m A = true ↔ Alive m A := by
  unfold aliveB Alive
  rw [Bool.and_eq_true, zfitsB_iff, List.all_eq_true]
  constructor
  · rintro ⟨h1, h2⟩
    exact ⟨h1, fun k hk => (zfitsB_iff _ _).1 (h2 k (List.mem_range.2 hk))⟩
  · rintro ⟨h1, h2⟩
    exact ⟨h1, fun k hk => (zfitsB_iff _ _).2 (h2 k (List.mem_range.1 hk))⟩

/-- The number of variables and one, as any zone is taken; its bounds, each as Near of it; and what comes of them. -/
def zm (N : Int) : Nat := if mayB N = true then N.toNat + 1 else 1
theorem zm_bd (N : Int) : 0 < zm N ∧ zm N ≤ 7 := by
  unfold zm
  cases h : mayB N
  · simp
  · have := (mayB_iff N).1 h; simp; omega
theorem zm_may {N : Int} (h : mayB N = true) : ((zm N : Nat) : Int) - 1 = N := by
  have := (mayB_iff N).1 h
  unfold zm
  rw [if_pos h]
  omega
def nearM (m : Nat) (f : Nat → Int) : Mat := fun i j => nearZ (f (i * m + j))
def zr (N : Int) (len : Nat) (f : Nat → Int) : Option Mat := if (mayB N && (decide (len = zm N * zm N) && aliveB (zm N) (nearM (zm N) f))) = true then some (lev (nearM (zm N) f) (zm N)) else none
theorem zr_closed {N : Int} {len : Nat} {f : Nat → Int} {C : Mat} (h : zr N len f = some C) : Closed (zm N) C := by
  unfold zr at h
  split at h
  · rename_i hc
    simp only [Bool.and_eq_true] at hc
    injection h with h
    rw [← h]
    exact lev_closed ((aliveB_iff _ _).1 hc.2.2)
  · cases h

/-- An argument: any zone. -/
def ZArg (w : World) (v : Value) (N : Int) (len : Nat) (f : Nat → Int) : Prop :=
  ∃ (A : Option Addr) (cap : Nat), v = zoneV N A len cap ∧ len ≤ cap ∧ len ≤ 100 ∧ (0 < len → ∃ b off : Nat, A = some ⟨b, off, none⟩ ∧ b < w.heap.size ∧ ∀ j, j < len → w.cell? ⟨b, off + j, none⟩ = some (.int .i64 (f j)))
theorem ZArg.below {w w' : World} {v : Value} {N : Int} {len : Nat} {f : Nat → Int} (h : ZArg w v N len f) (hb : Below w.heap.size w w') : ZArg w' v N len f := by
  obtain ⟨A, cap, e, h1, h2, h3⟩ := h
  refine ⟨A, cap, e, h1, h2, fun hl => ?_⟩
  obtain ⟨b, off, e, hlt, hc⟩ := h3 hl
  exact ⟨b, off, e, Nat.lt_of_lt_of_le hlt hb.size, fun j hj => (hb.cell (p := ⟨b, off + j, none⟩) hlt).trans (hc j hj)⟩
/-- A right zone, in a row from base on: of m - 1 variables; R: its bounds, if it has a point. -/
def ZRes (w : World) (base : Nat) (m : Nat) (R : Option Mat) (v : Value) : Prop :=
  match R with
  | none => v = zoneV ((m : Int) - 1) none 0 0
  | some C => Closed m C ∧ ∃ g cap, v = zoneV ((m : Int) - 1) (some ⟨g, 0, none⟩) (m * m) cap ∧ w.ownsRow base 3 1 (.slice (some ⟨g, 0, none⟩) (m * m) cap) (m * m) ((flatL m C).map (Value.int .i64))
def RetZ (w : World) (m : Nat) (R : Option Mat) (e : Ending) (w' : World) : Prop := ∃ v, e = .returned v ∧ ZRes w' w.heap.size m R v ∧ Below w.heap.size w w'
theorem ZRes.below {w w' : World} {base m : Nat} {R : Option Mat} {v : Value} (h : ZRes w base m R v) (hb : Below w.heap.size w w') : ZRes w' base m R v := by
  cases R with
  | none => exact h
  | some C => obtain ⟨hc, g, cap, e, ho⟩ := h; exact ⟨hc, g, cap, e, own_kept_below ho hb⟩
theorem ZRes.lower {w : World} {base base' m : Nat} {R : Option Mat} {v : Value} (h : ZRes w base m R v) (hb : base' ≤ base) : ZRes w base' m R v := by
  cases R with
  | none => exact h
  | some C => obtain ⟨hc, g, cap, e, ho⟩ := h; exact ⟨hc, g, cap, e, own_lower ho hb⟩
/-- How many bounds a right zone has, and which. -/
def rlen (m : Nat) : Option Mat → Nat
  | none => 0
  | some _ => m * m
def rfun (m : Nat) : Option Mat → Nat → Int
  | none => fun _ => 0
  | some C => fun t => C (t / m) (t % m)
theorem ZRes.arg {w : World} {base m : Nat} {R : Option Mat} {v : Value} (h : ZRes w base m R v) (hm : m ≤ 7) : ZArg w v ((m : Int) - 1) (rlen m R) (rfun m R) := by
  cases R with
  | none => exact ⟨none, 0, h, Nat.le_refl _, by simp [rlen], fun hl => absurd hl (by simp [rlen])⟩
  | some C =>
    obtain ⟨hc, g, cap, e, ho⟩ := h
    have hlen : m * m ≤ cap := by
      rcases ho.2 with ⟨h1, _⟩ | ⟨g', cap', cur, h1, _, _, h4, _⟩
      · simp at h1
      · simp only [Value.slice.injEq] at h1; omega
    refine ⟨_, cap, e, hlen, ?_, fun _ => ⟨g, 0, rfl, (ho.lt g rfl).2, fun j hj => ?_⟩⟩
    · have : m * m ≤ 7 * 7 := Nat.mul_le_mul hm hm
      show m * m ≤ 100
      omega
    · have hj : j < m * m := hj
      rw [Nat.zero_add, ho.cellAt j (by omega), List.getElem?_map]
      unfold flatL
      rw [List.getElem?_map, List.getElem?_range hj]
      rfl
theorem zm_of {m : Nat} (h0 : 0 < m) (h7 : m ≤ 7) : mayB ((m : Int) - 1) = true ∧ zm ((m : Int) - 1) = m := by
  have h : mayB ((m : Int) - 1) = true := (mayB_iff _).2 ⟨by omega, by omega⟩
  refine ⟨h, ?_⟩
  unfold zm
  rw [if_pos h]
  omega
theorem near_closed {m : Nat} {C : Mat} (h : Closed m C) : Same m (nearM m (rfun m (some C))) C := by
  intro i j hi hj
  have hb := h.bd hi hj
  show nearZ (C ((i * m + j) / m) ((i * m + j) % m)) = C i j
  rw [Nat.mul_comm i m, Nat.mul_add_div (by omega), Nat.mul_add_mod, Nat.div_eq_of_lt hj, Nat.mod_eq_of_lt hj, Nat.add_zero]
  rcases nearZ_cases (C i j) with q | q | q <;> omega
/-- A right zone is taken as it is. -/
theorem zr_right {m : Nat} {C : Mat} (h0 : 0 < m) (h7 : m ≤ 7) (h : Closed m C) : ∃ D, zr ((m : Int) - 1) (rlen m (some C)) (rfun m (some C)) = some D ∧ Same m D C := by
  obtain ⟨e1, e2⟩ := zm_of h0 h7
  have hs := near_closed h
  have ha : Alive m (nearM m (rfun m (some C))) := alive_congr (cap_congr (same_symm hs)) (lev_same h).1
  refine ⟨lev (nearM m (rfun m (some C))) m, ?_, same_trans (lev_congr (cap_congr hs) m (Nat.le_refl _)) (lev_same h).2⟩
  unfold zr
  rw [e1, e2, (aliveB_iff _ _).2 ha]
  simp [rlen]
theorem zr_bottom (m : Nat) (h0 : 0 < m) (h7 : m ≤ 7) : zr ((m : Int) - 1) (rlen m none) (rfun m none) = none := by
  obtain ⟨e1, e2⟩ := zm_of h0 h7
  unfold zr
  rw [e1, e2]
  have hn : ¬ (0 : Nat) = m * m := fun e => by have := Nat.mul_le_mul h0 h0; omega
  simp [rlen, hn]
end Go.Proofs.YtlddelnbjihhgaaGreatDoor
