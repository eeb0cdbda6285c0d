/- The contracts of the document's New, Has, Var, Walk, Term and Value. -/
import Derived.Test.YtlddelnbjihhgaaDoorNMore
namespace Go.Proofs.YtlddelnbjihhgaaDoor
open Go.RowKit
attribute [local go_sem ↓] Go.wp_at_zero Go.wp_at_succ

/-- The document's arena: its limit, and a row of nodes. -/
def RefA (W : World) (A : Option Addr) (c : Nat) (L : List Nd) : Prop := W.ownsRow 0 105 3 (.slice A L.length c) L.length (cellsL L) ∧ L.length ≤ 4000
section
variable {W W1 : World} {A : Option Addr} {c lim : Nat} {L : List Nd}
theorem RefA.below (h : RefA W A c L) (hb : Below W.heap.size W W1) : RefA W1 A c L := ⟨own_below h.1 hb, h.2⟩
theorem RefA.node (h : RefA W A c L) {k : Nat} {x1 x2 x3 : Int} (hx : L[k]? = some (x1, x2, x3)) : ∃ g, A = some ⟨g, 0, none⟩ ∧ g < W.heap.size ∧ W.cell? ⟨g, k * 3, none⟩ = some (.int .i64 x1) ∧ W.cell? ⟨g, k * 3 + 1, none⟩ = some (.int .i64 x2) ∧ W.cell? ⟨g, k * 3 + 2, none⟩ = some (.int .i64 x3) := by
  have hk := get_len hx
  obtain ⟨g, rfl, hg, hc⟩ := row_at h.1 (by omega)
  obtain ⟨h1, h2, h3⟩ := cellsL_at hx
  refine ⟨g, rfl, hg, ?_, ?_, ?_⟩
  · rw [h.1.cellAt _ (by omega)]; exact h1
  · rw [h.1.cellAt _ (by omega)]; exact h2
  · rw [h.1.cellAt _ (by omega)]; exact h3
theorem RefA.cap (h : RefA W A c L) : L.length ≤ c := by
  rcases h.1.2 with ⟨h', h0⟩ | ⟨g, cap, cur, h', _, _, hc, _⟩
  · omega
  · injection h' with _ _ h2
    omega
def RetRB (v : Value) (w : World) (e : Ending) (w' : World) : Prop := e = .returned v ∧ Below w.heap.size w w'
theorem lowest_any (w : World) : Calls Tryd.prog 73 #[] w (RetW (.int .i64 (-1099511627777)) w) := by
  go_enter Tryd.func73, Tryd.ntmps73
  go_wp2_with fail
  go_ret
  exact ⟨rfl, rfl⟩
/-- The arena's box. -/
def refBox (lim : Nat) (A : Option Addr) (n c : Nat) : Obj := .cells #[.int .i64 lim, .slice A n c] 46
theorem rhas_any {r : Int} (h : RefA W A c L) : Calls Tryd.prog 32 #[.agg #[.int .i64 lim, .slice A L.length c], .int .i64 r] W (RetRB (.bool (hasP L.length r)) W) := by
  have hfew := h.2
  have hb := Lib.hid ((Below.refl W.heap.size W).alloc (Nat.le_refl _) (refBox lim A L.length c))
  unfold refBox at hb
  clear h
  by_cases h1 : -1099511627777 ≤ r
  · by_cases h2 : r < (L.length : Int)
    · rw [show hasP L.length r = true by rw [hasP_iff]; exact ⟨h1, h2⟩]
      go_enter Tryd.func32, Tryd.ntmps32
      go_wp2_with (go_at_call 73; ((with_reducible refine (lowest_any _).mono ?_); rintro e w1 ⟨rfl, rfl⟩))
      go_ret
      exact ⟨rfl, hb.out⟩
    · rw [show hasP L.length r = false by cases e : hasP L.length r; rfl; rw [hasP_iff] at e; omega]
      have hd : decide (r < (L.length : Int)) = false := decide_eq_false h2
      go_enter Tryd.func32, Tryd.ntmps32
      go_wp2_with (go_at_call 73; ((with_reducible refine (lowest_any _).mono ?_); rintro e w1 ⟨rfl, rfl⟩))
      go_ret
      exact ⟨rfl, hb.out⟩
  · rw [show hasP L.length r = false by cases e : hasP L.length r; rfl; rw [hasP_iff] at e; omega]
    go_enter Tryd.func32, Tryd.ntmps32
    go_wp2_with (go_at_call 73; ((with_reducible refine (lowest_any _).mono ?_); rintro e w1 ⟨rfl, rfl⟩))
    go_ret
    exact ⟨rfl, hb.out⟩
theorem rvar_any {r : Int} (h : RefA W A c L) : Calls Tryd.prog 100 #[.agg #[.int .i64 lim, .slice A L.length c], .int .i64 r] W (RetRB (.int .i64 (varP L r)) W) := by
  have hfew := h.2
  have hb := Lib.hid ((Below.refl W.heap.size W).alloc (Nat.le_refl _) (refBox lim A L.length c))
  have hbb := (Below.refl W.heap.size W).alloc (Nat.le_refl _) (refBox lim A L.length c)
  by_cases hin : 0 ≤ r ∧ r < (L.length : Int)
  · obtain ⟨k, rfl⟩ : ∃ k : Nat, r = (k : Int) := ⟨r.toNat, by omega⟩
    obtain ⟨x1, x2, x3, hx⟩ := node_named (show k < L.length by omega)
    obtain ⟨g, rfl, hg, k0, k1, k2⟩ := (h.below hbb).node hx
    have hv : varP L (k : Int) = x1 := varP_at hx
    rw [hv]
    have hcap := h.cap
    unfold refBox at hb hbb k0 k1 k2 hg
    clear hv hx h hbb
    obtain ⟨hin0, hin1⟩ := hin
    go_enter Tryd.func100, Tryd.ntmps100
    go_wp2_with fail
    go_ret
    exact ⟨rfl, hb.out⟩
  · have hv : varP L r = 12 := by unfold varP; rw [if_neg hin]
    rw [hv]
    unfold refBox at hb
    clear hv h hbb
    by_cases h0 : r < 0
    · clear hin
      go_enter Tryd.func100, Tryd.ntmps100
      go_wp2_with fail
      go_ret
      exact ⟨rfl, hb.out⟩
    · have h1 : (L.length : Int) ≤ r := by omega
      clear hin
      go_enter Tryd.func100, Tryd.ntmps100
      go_wp2_with fail
      go_ret
      exact ⟨rfl, hb.out⟩
def RetRNew (lim : Nat) (w : World) (e : Ending) (w' : World) : Prop := e = .returned (.agg #[.int .i64 lim, .slice none 0 0]) ∧ Below w.heap.size w w'
theorem rnew_any {n : Int} {lim : Nat} (hl : n.toNat = lim) (w : World) : Calls Tryd.prog 63 #[.int .i64 n] w (RetRNew lim w) := by
  have hb := Lib.hid ((Below.refl w.heap.size w).alloc (Nat.le_refl _) (.cells #[.int .i64 lim, .slice none 0 0] 46))
  by_cases h0 : n < 0
  · obtain rfl : lim = 0 := by omega
    clear hl
    go_enter Tryd.func63, Tryd.ntmps63
    go_wp2_with fail
    exact bodyPost_ret (v := .agg #[.int .i64 ((0 : Nat) : Int), .slice none 0 0]) (by simp [results, Tryd.results63, go_sem]) rfl ⟨rfl, hb.out⟩
  · obtain rfl : n = (lim : Int) := by omega
    clear hl h0
    go_enter Tryd.func63, Tryd.ntmps63
    go_wp2_with fail
    exact bodyPost_ret (v := .agg #[.int .i64 (lim : Int), .slice none 0 0]) (by simp [results, Tryd.results63, go_sem]) rfl ⟨rfl, hb.out⟩
theorem refA_none (W : World) : RefA W none 0 [] := ⟨World.ownsRow_nil _ _ _ _, by simp⟩
end
end Go.Proofs.YtlddelnbjihhgaaDoor
