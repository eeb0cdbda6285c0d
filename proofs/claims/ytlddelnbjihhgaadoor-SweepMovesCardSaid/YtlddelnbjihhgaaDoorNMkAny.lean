/- Mk, whatever is asked; New; Get; Walk. -/
import Derived.Test.YtlddelnbjihhgaaDoorNMkMore
import Derived.Test.YtlddelnbjihhgaaDoorNSame
import Derived.Lib.MinMax
namespace Go.Proofs.YtlddelnbjihhgaaDoor
open Go.RowKit
attribute [local go_sem ↓] Go.wp_at_zero Go.wp_at_succ

section
variable {W : World} {own : Nat → Prop} {p lim : Nat} {L : List Nd} {v lo hi : Int}
theorem mk_any (hA : Arena W own p lim L) (hfew : L.length + 1 ≤ 4000) :
    Calls Tryd.prog 65 #[.pointer (some ⟨p, 0, none⟩), .int .i64 v, .int .i64 lo, .int .i64 hi] W (RetMk own p lim L v lo hi W) := by
  by_cases hv : v < 0 ∨ 12 ≤ v
  · exact mk_var hA hv
  by_cases hc : hasP L.length lo = true ∧ v < varP L lo
  · by_cases hd : hasP L.length hi = true ∧ v < varP L hi
    · by_cases he : lo = hi
      · exact mk_like hA (by omega) (by omega) hc he
      · by_cases hx : ∃ k : Nat, L[k]? = some (v, lo, hi)
        · obtain ⟨k, hx⟩ := hx
          exact mk_old hA (by omega) (by omega) hc hd he hx
        · have hx' : ∀ k : Nat, L[k]? ≠ some (v, lo, hi) := fun k e => hx ⟨k, e⟩
          by_cases hl : lim ≤ L.length
          · exact mk_full hA (by omega) (by omega) hc hd he hx' hl
          · exact mk_new hA (by omega) (by omega) hc hd he hx' (by omega) hfew
    · exact mk_order hA (by omega) (by omega) (.inr hd)
  · exact mk_order hA (by omega) (by omega) (.inl hc)
/-- New: an empty arena, in a block of its own. -/
def RetNew (lim : Nat) (w : World) (e : Ending) (w' : World) : Prop :=
  e = .returned (.pointer (some ⟨w.heap.size, 0, none⟩)) ∧ Arena w' (fun i => i = w.heap.size) w.heap.size lim [] ∧ Below w.heap.size w w'
theorem new_arena (w : World) (lim : Nat) (hl : lim ≤ 9223372036854775807) : Arena (w.alloc (.cells #[.int .i64 lim, .slice none 0 0, .slice none 0 0] 131)) (fun i => i = w.heap.size) w.heap.size lim [] :=
  ⟨0, fun _ => 0, none, none, 0, 0, ⟨Blk.new _ _ _, rfl, fun g h => by simp [Value.ownBlock] at h, fun g h => by simp [Value.ownBlock] at h, fun i hi => by simp [hi], World.ownsRow_nil _ _ _ _, World.ownsRow_nil _ _ _ _, hl, by simp, by simp⟩, inv_none _ _ _, by simp, right_none⟩
theorem new_any (n : Int) (h : -9223372036854775808 ≤ n ∧ n ≤ 9223372036854775807) (w : World) : Calls Tryd.prog 62 #[.int .i64 n] w (RetNew n.toNat w) := by
  obtain ⟨k, hk⟩ : ∃ k : Nat, n.toNat = k := ⟨_, rfl⟩
  rw [hk]
  have HN := Lib.hid (new_arena w k (by omega))
  have hm : max n 0 = (k : Int) := by omega
  clear h hk
  go_enter Tryd.func62, Tryd.ntmps62
  go_wp2_with fail
  go_ret
  exact ⟨rfl, HN.out, (Below.refl _ _).alloc (Nat.le_refl _) _⟩
set_option maxRecDepth 100000 in
set_option maxHeartbeats 800000 in
theorem get_none {P cn cp : Nat} {T : Nat → Nat} {An Ap : Option Addr} {r : Int} (h : ArenaR W own p lim L P T An Ap cn cp) (hb : holdsB L.length r = false) :
    Calls Tryd.prog 72 #[.pointer (some ⟨p, 0, none⟩), .int .i64 r] W fun e w' => e = .returned (.tuple #[.agg #[.int .i64 0, .int .i64 0, .int .i64 0], .bool false]) ∧ Below W.heap.size W w' := by
  have zb := Lib.hid ((Below.refl W.heap.size W).alloc (Nat.le_refl _) (.cells #[.int .i64 0, .int .i64 0, .int .i64 0] 106))
  have HH := Lib.hid (holds_any (r := r) (h.below zb.out).c1)
  rw [hb] at HH
  clear hb h
  go_enter Tryd.func72, Tryd.ntmps72
  go_wp2_with (go_at_call 107; ((with_reducible refine HH.out.mono ?_); rintro e w1 ⟨rfl, rfl⟩))
  refine bodyPost_ret (v := .tuple #[.agg #[.int .i64 0, .int .i64 0, .int .i64 0], .bool false]) (by simp [results, Tryd.results72, go_sem]) rfl ⟨rfl, zb.out⟩
set_option maxRecDepth 100000 in
set_option maxHeartbeats 800000 in
theorem get_some {P cn cp k : Nat} {T : Nat → Nat} {An Ap : Option Addr} {x : Nd} (h : ArenaR W own p lim L P T An Ap cn cp) (hx : L[k]? = some x) :
    Calls Tryd.prog 72 #[.pointer (some ⟨p, 0, none⟩), .int .i64 (k : Int)] W fun e w' => e = .returned (.tuple #[.agg #[.int .i64 x.1, .int .i64 x.2.1, .int .i64 x.2.2], .bool true]) ∧ Below W.heap.size W w' := by
  have zb := Lib.hid ((Below.refl W.heap.size W).alloc (Nat.le_refl _) (.cells #[.int .i64 x.1, .int .i64 x.2.1, .int .i64 x.2.2] 106))
  have zb0 := Lib.hid ((Below.refl W.heap.size W).alloc (Nat.le_refl _) (.cells #[.int .i64 0, .int .i64 0, .int .i64 0] 106))
  have HH := Lib.hid (holds_any (r := (k : Int)) (h.below zb0.out).c1)
  have hb : holdsB L.length (k : Int) = true := by unfold holdsB; have := get_len hx; simp; omega
  rw [hb] at HH
  obtain ⟨g, hAn, hk, d0, d1, d2⟩ := (h.below zb0.out).node hx
  have c1 := (h.below zb0.out).c1
  subst hAn
  clear hb h hx
  go_enter Tryd.func72, Tryd.ntmps72
  go_wp2_with (go_at_call 107; ((with_reducible refine HH.out.mono ?_); rintro e w1 ⟨rfl, rfl⟩))
  refine bodyPost_ret (v := .tuple #[.agg #[.int .i64 x.1, .int .i64 x.2.1, .int .i64 x.2.2], .bool true]) (by simp [results, Tryd.results72, go_sem]) rfl ⟨rfl, zb.out⟩
end
end Go.Proofs.YtlddelnbjihhgaaDoor
