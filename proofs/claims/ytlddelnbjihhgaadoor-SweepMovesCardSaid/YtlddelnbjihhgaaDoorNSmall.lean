/- The contracts of node's least functions: Len, Limit, holds, names, Has, Var, below, Term, Value, IsTerm, New, fault. -/
import Derived.Test.YtlddelnbjihhgaaDoorNBase
namespace Go.Proofs.YtlddelnbjihhgaaDoor
open Go.RowKit
attribute [local go_sem ↓] Go.wp_at_zero Go.wp_at_succ

def RetW (v : Value) (w : World) (e : Ending) (w' : World) : Prop := e = .returned v ∧ w = w'
def holdsB (n : Nat) (r : Int) : Bool := decide (0 ≤ r) && decide (r < (n : Int))
theorem len_any {W : World} {p n c : Nat} {A : Option Addr} (c1 : W.cell? ⟨p, 1, none⟩ = some (.slice A n c)) :
    Calls Tryd.prog 67 #[.pointer (some ⟨p, 0, none⟩)] W (RetW (.int .i64 n) W) := by
  go_enter Tryd.func67, Tryd.ntmps67
  go_wp2_with fail
  go_ret
  exact ⟨rfl, rfl⟩
theorem holds_any {W : World} {p n c : Nat} {A : Option Addr} {r : Int} (c1 : W.cell? ⟨p, 1, none⟩ = some (.slice A n c)) :
    Calls Tryd.prog 107 #[.pointer (some ⟨p, 0, none⟩), .int .i64 r] W (RetW (.bool (holdsB n r)) W) := by
  by_cases h0 : 0 ≤ r
  · have e0 : decide (0 ≤ r) = true := decide_eq_true h0
    have hr : holdsB n r = decide (r < (n : Int)) := by unfold holdsB; rw [e0]; rfl
    rw [hr]
    generalize hb : decide (r < (n : Int)) = b
    go_enter Tryd.func107, Tryd.ntmps107
    go_wp2_with (go_at_call 67; ((with_reducible refine (len_any c1).mono ?_); rintro e w1 ⟨rfl, rfl⟩))
    go_ret
    exact ⟨rfl, rfl⟩
  · have e0 : decide (0 ≤ r) = false := decide_eq_false h0
    have hr : holdsB n r = false := by unfold holdsB; rw [e0]; rfl
    rw [hr]
    clear hr
    go_enter Tryd.func107, Tryd.ntmps107
    go_wp2_with fail
    go_ret
    exact ⟨rfl, rfl⟩
def namesB (r : Int) : Bool := decide (-1099511627777 ≤ r) && decide (r < 0)
theorem names_any (r : Int) (W : World) : Calls Tryd.prog 106 #[.int .i64 r] W (RetW (.bool (namesB r)) W) := by
  by_cases h0 : -1099511627777 ≤ r
  · have e0 : decide (-1099511627777 ≤ r) = true := decide_eq_true h0
    have hr : namesB r = decide (r < 0) := by unfold namesB; rw [e0]; rfl
    rw [hr]
    generalize hb : decide (r < 0) = b
    go_enter Tryd.func106, Tryd.ntmps106
    go_wp2_with fail
    go_ret
    exact ⟨rfl, rfl⟩
  · have e0 : decide (-1099511627777 ≤ r) = false := decide_eq_false h0
    have hr : namesB r = false := by unfold namesB; rw [e0]; rfl
    rw [hr]
    clear hr
    go_enter Tryd.func106, Tryd.ntmps106
    go_wp2_with fail
    go_ret
    exact ⟨rfl, rfl⟩
theorem has_or (n : Nat) (r : Int) : hasP n r = (namesB r || holdsB n r) := by
  unfold hasP namesB holdsB
  rw [Bool.eq_iff_iff]
  simp
  omega
theorem hasA_any {W : World} {p n c : Nat} {A : Option Addr} {r : Int} (c1 : W.cell? ⟨p, 1, none⟩ = some (.slice A n c)) :
    Calls Tryd.prog 69 #[.pointer (some ⟨p, 0, none⟩), .int .i64 r] W (RetW (.bool (hasP n r)) W) := by
  rw [has_or]
  have HN := Lib.hid (names_any r W)
  have HH := Lib.hid (holds_any (r := r) c1)
  generalize namesB r = a at *
  generalize holdsB n r = b at *
  cases a
  all_goals
    go_enter Tryd.func69, Tryd.ntmps69
    go_wp2_with (first
      | (go_at_call 106; ((with_reducible refine HN.out.mono ?_); rintro e w1 ⟨rfl, rfl⟩))
      | (go_at_call 107; ((with_reducible refine HH.out.mono ?_); rintro e w1 ⟨rfl, rfl⟩)))
    go_ret
    exact ⟨rfl, rfl⟩
theorem varP_out {L : List Nd} {r : Int} (h : holdsB L.length r = false) : varP L r = 12 := by
  unfold varP; rw [if_neg]
  rintro ⟨h1, h2⟩
  unfold holdsB at h
  rw [decide_eq_true h1, decide_eq_true h2] at h
  cases h
theorem holds_at {L : List Nd} {r : Int} (h : holdsB L.length r = true) : ∃ (k : Nat) (x : Nd), r = (k : Int) ∧ L[k]? = some x ∧ varP L r = x.1 := by
  unfold holdsB at h
  simp at h
  have hk : r.toNat < L.length := by omega
  refine ⟨r.toNat, L[r.toNat], by omega, List.getElem?_eq_getElem hk, ?_⟩
  unfold varP
  rw [if_pos (by omega), List.getD_eq_getElem?_getD, List.getElem?_eq_getElem hk]
  rfl
section
variable {W : World} {own : Nat → Prop} {p lim P cn cp : Nat} {L : List Nd} {T : Nat → Nat} {An Ap : Option Addr}
theorem varA_any {r : Int} (h : ArenaR W own p lim L P T An Ap cn cp) :
    Calls Tryd.prog 122 #[.pointer (some ⟨p, 0, none⟩), .int .i64 r] W (RetW (.int .i64 (varP L r)) W) := by
  have c1 := h.c1
  have HH := Lib.hid (holds_any (r := r) c1)
  cases hb : holdsB L.length r
  · rw [varP_out hb]
    rw [hb] at HH
    clear hb h c1
    go_enter Tryd.func122, Tryd.ntmps122
    go_wp2_with (go_at_call 107; ((with_reducible refine HH.out.mono ?_); rintro e w1 ⟨rfl, rfl⟩))
    go_ret
    exact ⟨rfl, rfl⟩
  · obtain ⟨k, x, rfl, hx, hv⟩ := holds_at hb
    rw [hv]
    rw [hb] at HH
    have hl := h.few
    obtain ⟨g, rfl, hk, d0, d1, d2⟩ := h.node hx
    clear hb h hv hx
    go_enter Tryd.func122, Tryd.ntmps122
    go_wp2_with (go_at_call 107; ((with_reducible refine HH.out.mono ?_); rintro e w1 ⟨rfl, rfl⟩))
    go_ret
    exact ⟨rfl, rfl⟩
theorem belowA_any {v r : Int} (h : ArenaR W own p lim L P T An Ap cn cp) :
    Calls Tryd.prog 102 #[.pointer (some ⟨p, 0, none⟩), .int .i64 v, .int .i64 r] W (RetW (.bool (hasP L.length r && decide (v < varP L r))) W) := by
  have HH := Lib.hid (hasA_any (r := r) h.c1)
  have HV := Lib.hid (varA_any (r := r) h)
  generalize varP L r = x at *
  cases hb : hasP L.length r
  · rw [hb] at HH
    clear hb h
    go_enter Tryd.func102, Tryd.ntmps102
    go_wp2_with (first
      | (go_at_call 69; ((with_reducible refine HH.out.mono ?_); rintro e w1 ⟨rfl, rfl⟩))
      | (go_at_call 122; ((with_reducible refine HV.out.mono ?_); rintro e w1 ⟨rfl, rfl⟩)))
    go_ret
    exact ⟨rfl, rfl⟩
  · rw [hb] at HH
    clear hb h
    generalize hd : decide (v < x) = b
    go_enter Tryd.func102, Tryd.ntmps102
    go_wp2_with (first
      | (go_at_call 69; ((with_reducible refine HH.out.mono ?_); rintro e w1 ⟨rfl, rfl⟩))
      | (go_at_call 122; ((with_reducible refine HV.out.mono ?_); rintro e w1 ⟨rfl, rfl⟩)))
    go_ret
    exact ⟨rfl, rfl⟩
end
/-- Why there is no node: a Fault of its own. -/
def RetFault (v c : Int) (w : World) (e : Ending) (w' : World) : Prop :=
  e = .returned (.iface 165 (.pointer (some ⟨w.heap.size, 0, none⟩))) ∧ Blk w' w.heap.size 167 #[.string ⟨#[109, 107]⟩, .int .i64 v, .iface 53 (.int .i64 c)] ∧ w'.heap.size = w.heap.size + 1 ∧ Below w.heap.size w w'
theorem fault_any (v c : Int) (w : World) : Calls Tryd.prog 101 #[.int .i64 v, .int .i64 c] w (RetFault v c w) := by
  go_enter Tryd.func101, Tryd.ntmps101
  go_wp2_with fail
  go_ret
  exact ⟨rfl, Blk.new _ _ _, by simp, (Below.refl _ _).alloc (Nat.le_refl _) _⟩
end Go.Proofs.YtlddelnbjihhgaaDoor
