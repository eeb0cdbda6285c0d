/- The contracts of the zone layer's least functions: may, farthest, place, at, none, named, known. -/
import Derived.Test.YtlddelnbjihhgaaGreatDoorProg
import Derived.Test.YtlddelnbjihhgaaGreatDoorZMath
import Derived.WalkKit
import Derived.WalkSpells
import Derived.Outline
import Derived.Lib.Hide
import Derived.Below
import Derived.Deep.RegionHeld3
import Derived.Deep.DeepCutAuto
import Derived.Deep.DrawnRows
namespace Go.Proofs.YtlddelnbjihhgaaGreatDoor
open Go.RowKit
attribute [local go_sem ↓] Go.wp_at_zero Go.wp_at_succ

/-- A zone's value. -/
abbrev zoneV (n : Int) (A : Option Addr) (len cap : Nat) : Value := .agg #[.int .i64 n, .slice A len cap]
def ZRetInt (x : Int) (w : World) (e : Ending) (w' : World) : Prop := e = .returned (.int .i64 x) ∧ Below w.heap.size w w'
def ZRetBool (b : Bool) (w : World) (e : Ending) (w' : World) : Prop := e = .returned (.bool b) ∧ Below w.heap.size w w'
theorem zboxed (w : World) (o : Obj) : Below w.heap.size w (w.alloc o) := (Below.refl _ _).alloc (Nat.le_refl _) _
theorem zthen {w w1 w2 : World} (h1 : Below w.heap.size w w1) (h2 : Below w1.heap.size w1 w2) : Below w.heap.size w w2 := h1.trans (h2.mono h1.size)

set_option maxHeartbeats 400000 in
theorem place_any (n i j : Int) (A : Option Addr) (len cap : Nat) (w : World) (hn : 0 ≤ n ∧ n ≤ 6) (hi : 0 ≤ i ∧ i ≤ 6) (hj : 0 ≤ j ∧ j ≤ 6) (p : Int) (hp : i * (n + 1) + j = p) (hb : 0 ≤ i * (n + 1) ∧ i * (n + 1) ≤ 100) :
    Calls Tryz.prog 81 #[zoneV n A len cap, .int .i64 i, .int .i64 j] w (ZRetInt p w) := by
  obtain ⟨n0, n1⟩ := hn
  obtain ⟨i0, i1⟩ := hi
  obtain ⟨j0, j1⟩ := hj
  obtain ⟨b0, b1⟩ := hb
  subst hp
  go_enter Tryz.func81, Tryz.ntmps81
  go_wp2_with fail
  go_ret
  exact ⟨rfl, zboxed _ _⟩

theorem keep_at {W w1 : World} (hb : Below W.heap.size W w1) {g b o : Nat} {x y z : Option Value} (h : g < W.heap.size ∧ b < W.heap.size ∧ W.cell? ⟨g, 0, none⟩ = x ∧ W.cell? ⟨g, 1, none⟩ = y ∧ W.cell? ⟨b, o, none⟩ = z) :
    g < w1.heap.size ∧ b < w1.heap.size ∧ w1.cell? ⟨g, 0, none⟩ = x ∧ w1.cell? ⟨g, 1, none⟩ = y ∧ w1.cell? ⟨b, o, none⟩ = z := by
  have hs := hb.size
  exact ⟨by omega, by omega, by rw [hb.cell (p := ⟨g, 0, none⟩) h.1]; exact h.2.2.1, by rw [hb.cell (p := ⟨g, 1, none⟩) h.1]; exact h.2.2.2.1, by rw [hb.cell (p := ⟨b, o, none⟩) h.2.1]; exact h.2.2.2.2⟩

set_option maxHeartbeats 800000 in
theorem at_any (n i j : Int) (b off len cap t : Nat) (x : Int) (w : World) (hn : 0 ≤ n ∧ n ≤ 6) (hi : 0 ≤ i ∧ i ≤ 6) (hj : 0 ≤ j ∧ j ≤ 6) (hp : i * (n + 1) + j = (t : Int)) (hb : 0 ≤ i * (n + 1) ∧ i * (n + 1) ≤ 100) (ht : t < len) (hbk : b < w.heap.size) (hc : w.cell? ⟨b, off + t, none⟩ = some (.int .i64 x)) :
    Calls Tryz.prog 40 #[zoneV n (some ⟨b, off, none⟩) len cap, .int .i64 i, .int .i64 j] w (ZRetInt x w) := by
  have K0 : Hid (w.heap.size < (w.alloc (.cells #[.int .i64 n, .slice (some ⟨b, off, none⟩) len cap] 32)).drew.heap.size ∧ b < (w.alloc (.cells #[.int .i64 n, .slice (some ⟨b, off, none⟩) len cap] 32)).drew.heap.size ∧ (w.alloc (.cells #[.int .i64 n, .slice (some ⟨b, off, none⟩) len cap] 32)).drew.cell? ⟨w.heap.size, 0, none⟩ = some (.int .i64 n) ∧ (w.alloc (.cells #[.int .i64 n, .slice (some ⟨b, off, none⟩) len cap] 32)).drew.cell? ⟨w.heap.size, 1, none⟩ = some (.slice (some ⟨b, off, none⟩) len cap) ∧ (w.alloc (.cells #[.int .i64 n, .slice (some ⟨b, off, none⟩) len cap] 32)).drew.cell? ⟨b, off + t, none⟩ = some (.int .i64 x)) := Lib.hid ⟨by simp, by simp; omega, by go_simp, by go_simp, by go_simp⟩
  have HP := Lib.hid (fun W => place_any n i j (some ⟨b, off, none⟩) len cap W hn hi hj t hp hb)
  clear hp hb hn hi hj hc
  go_enter Tryz.func40, Tryz.ntmps40
  go_wp2_with fail
  go_region_held3 (fun w' => w.heap.size < w'.heap.size ∧ b < w'.heap.size ∧ w'.cell? ⟨w.heap.size, 0, none⟩ = some (.int .i64 n) ∧ w'.cell? ⟨w.heap.size, 1, none⟩ = some (.slice (some ⟨b, off, none⟩) len cap) ∧ w'.cell? ⟨b, off + t, none⟩ = some (.int .i64 x))
    (first | (with_reducible exact K0.out) | (with_reducible exact keep_at hb1 (by assumption)))
    (first | (go_at_call 81; ((with_reducible refine (HP.out _).mono ?_); rintro e w1 ⟨rfl, hb1⟩)))
  all_goals go_wp2_with fail
  all_goals go_ret
  all_goals exact ⟨rfl, zthen (zboxed _ _).drew hb1⟩
end Go.Proofs.YtlddelnbjihhgaaGreatDoor
