/- The leaf layer: has, twin, Get. -/
import Derived.Test.YtlkbapcienjdcaaDoorLNew
namespace Go.Proofs.YtlkbapcienjdcaaDoor
open Go.RowKit
attribute [local go_sem ↓] Go.wp_at_zero Go.wp_at_succ
section
variable {W : World} {B p bm m lim base g n c : Nat} {v : Value} {A : Option Addr} {R : Option Mat} {L : List Lz} {i : Int} {xs : List Value}
/-- Is there such a number? -/
def hasN (n : Nat) (i : Int) : Bool := decide (0 ≤ i) && decide (i < (n : Int))
set_option maxHeartbeats 400000 in
theorem hasL_any (h : LTab B p bm v m lim L L W) (i : Int) : Calls Tryd.prog 29 #[.pointer (some ⟨p, 0, none⟩), .int .i64 i] W (fun e w' => e = .returned (.bool (hasN L.length i)) ∧ W = w') := by
  obtain ⟨Av, cv, rfl⟩ := h.vs
  have a := h.tb.cell 2
  unfold hasN
  clear h
  by_cases h1 : 0 ≤ i
  · have d1 : decide (0 ≤ i) = true := decide_eq_true h1
    by_cases h2 : i < (L.length : Int)
    · have d2 : decide (i < (L.length : Int)) = true := decide_eq_true h2
      rw [d1, d2]
      clear h1 h2
      go_enter Tryd.func29, Tryd.ntmps29
      go_wp2_with fail
      go_ret
      exact ⟨rfl, rfl⟩
    · have d2 : decide (i < (L.length : Int)) = false := decide_eq_false h2
      rw [d1, d2]
      clear h1 h2
      go_enter Tryd.func29, Tryd.ntmps29
      go_wp2_with fail
      go_ret
      exact ⟨rfl, rfl⟩
  · have d1 : decide (0 ≤ i) = false := decide_eq_false h1
    rw [d1]
    clear h1
    go_enter Tryd.func29, Tryd.ntmps29
    go_wp2_with fail
    go_ret
    exact ⟨rfl, rfl⟩
set_option maxRecDepth 100000 in
set_option maxHeartbeats 1600000 in
theorem clone_ints (h : W.ownsRow base 3 1 (.slice (some ⟨g, 0, none⟩) n c) n xs) (hn : n ≤ 20000) (hone : ∀ u ∈ xs, u.oneCell' = true) : Calls Tryd.prog 55 #[.slice (some ⟨g, 0, none⟩) n c] W (RetCl 3 1 n xs W) := by
  obtain ⟨i0, hi, hz0, hz1, hz2⟩ := info_parts zinfo3
  have hglt : g < W.heap.size := (h.lt g rfl).2
  have hnil := Lib.run_eql_slice_nil (P := Tryd.prog) W 29 3 (some ⟨g, 0, none⟩) n c 0 0 Tryd.underlying29
  have hxl := h.1
  have hnews : Hid (∀ j u, xs[j]? = some u → (W.alloc (.cells #[] 3)).cell? ((⟨g, 0, none⟩ : Addr).add j) = some u) := Lib.hid fun j u hu => by
    have hb := (Below.refl W.heap.size W).alloc (Nat.le_refl _) (.cells #[] 3)
    rw [Addr.add_lit, Nat.zero_add, hb.cell (p := ⟨g, j, none⟩) hglt, h.cellAt j (by have := (List.getElem?_eq_some_iff.1 hu).1; omega)]
    exact hu
  have hown := Lib.hid (World.ownsRow_lit (base := W.heap.size) (e := 3) (size := 1) W #[] 0 (Nat.le_refl _) (by unfold maxLen; omega) rfl)
  have hsz : Hid (n ≤ maxLen ∧ n * 8 ≤ 140737488355328 ∧ W.heap.size ≤ (W.alloc (.cells #[] 3)).heap.size) := Lib.hid ⟨by unfold maxLen; omega, by omega, by simp⟩
  have HOne := Lib.hid hone
  have HLen := Lib.hid hxl
  clear h hone hxl hglt
  go_enter Tryd.func55, Tryd.ntmps55
  go_wp2_with (at_builtin; refine wpList_append_bat rfl _ _ 29 rfl W.heap.size 3 i0 (.int .i64 0) 1 8 Tryd.underlying29 hi hz0 hz1 hz2 rfl (by decide) _ _ _ rfl hown.out ⟨g, 0, none⟩ n c xs rfl HLen.out hnews.out HOne.out ?_ ?_ hsz.out.2.2 ?_; have := hsz.out.1; omega; have := hsz.out.2.1; omega; intro v' w' hown' hgrow _; have HO := Lib.hid hown'; have HG := Lib.hid hgrow; clear hown' hgrow)
  go_ret
  have hb := (Below.refl W.heap.size W).alloc (Nat.le_refl _) (.cells #[] 3)
  have hO := HO.out
  rw [Nat.zero_add, List.nil_append] at hO
  refine ⟨_, rfl, hO, ?_⟩
  exact hb.grown HG.out hsz.out.2.2 (fun k hk => Nat.le_of_eq (Option.some.inj (show some W.heap.size = some k from hk)))
set_option maxHeartbeats 400000 in
theorem clone_nil (W : World) : Calls Tryd.prog 55 #[.slice none 0 0] W (fun e w' => e = .returned (.slice none 0 0) ∧ W = w') := by
  have hnil := Lib.run_eql_slice_nil (P := Tryd.prog) W 29 3 none 0 0 0 0 Tryd.underlying29
  go_enter Tryd.func55, Tryd.ntmps55
  go_wp2_with fail
  go_ret
  exact ⟨rfl, rfl⟩
end
end Go.Proofs.YtlkbapcienjdcaaDoor
