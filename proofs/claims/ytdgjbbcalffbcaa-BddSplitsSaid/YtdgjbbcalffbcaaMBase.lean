/- Memos: words for memory, and what a memo is. -/
import Derived.Test.YtdgjbbcalffbcaaNBase
import Derived.Test.YtdgjbbcalffbcaaMMath
import Derived.Below
import Derived.Laws.OwnMore
import Derived.Deep.AppendLies
import Derived.Deep.Draws
import Derived.Laws.Rows
import Derived.Laws.AppendOwn
import Derived.WalkKit
import Derived.WalkSpells
import Derived.IntWalk
import Derived.Outline
import Derived.Lib.Hide
import Derived.Deep.RegionHeld3
import Derived.Deep.DrawnRows
import Derived.Deep.RegionWith
import Derived.Deep.DeepCutAuto
import Derived.BigRegion
import Derived.Deep.QuietTactic
import Derived.BigQuiet
namespace Go.Proofs.Ytdgjbbcalffbcaa.Mem
open Go.RowKit

/-- The cells of a place; of the first n places. -/
def plC : Pl → List Value
  | none => [.int .i64 0, .int .i64 0, .int .i64 0, .int .i64 0, .bool false]
  | some x => [.int .i64 x.1.1, .int .i64 x.1.2.1, .int .i64 x.1.2.2, .int .i64 x.2, .bool true]
def placesC (T : Nat → Pl) : Nat → List Value
  | 0 => []
  | n + 1 => placesC T n ++ plC (T n)
theorem plC_len (p : Pl) : (plC p).length = 5 := by cases p <;> rfl
theorem placesC_len (T : Nat → Pl) : ∀ n, (placesC T n).length = n * 5
  | 0 => rfl
  | n + 1 => by show (placesC T n ++ _).length = _; rw [List.length_append, placesC_len T n, plC_len]; omega
theorem placesC_at (T : Nat → Pl) {s i : Nat} (hi : i < 5) : ∀ {n : Nat}, s < n → (placesC T n)[s * 5 + i]? = (plC (T s))[i]?
  | 0, h => absurd h (by omega)
  | n + 1, h => by
    show (placesC T n ++ plC (T n))[s * 5 + i]? = _
    by_cases e : s < n
    · rw [List.getElem?_append_left (by rw [placesC_len]; omega)]
      exact placesC_at T hi e
    · obtain rfl : s = n := by omega
      rw [List.getElem?_append_right (by rw [placesC_len]; omega), placesC_len]
      congr 1
      omega
theorem placesC_congr {T T' : Nat → Pl} : ∀ {n : Nat}, (∀ s, s < n → T' s = T s) → placesC T' n = placesC T n
  | 0, _ => rfl
  | n + 1, h => by
    show placesC T' n ++ plC (T' n) = placesC T n ++ plC (T n)
    rw [placesC_congr (n := n) (fun s hs => h s (by omega)), h n (by omega)]

/-- A memo's memory: block p; and block g, its places. -/
structure MemoR (W : World) (p g n c : Nat) (T : Nat → Pl) : Prop where
  blk : Blk W p 81 #[.slice (some ⟨g, 0, none⟩) n c, .int .i64 (lenP T n : Nat)]
  row : W.ownsRow 0 115 5 (.slice (some ⟨g, 0, none⟩) n c) n (placesC T n)
  room : 0 < n ∧ n ≤ 65536
section
variable {W W' : World} {p g n c : Nat} {T : Nat → Pl}
theorem MemoR.c0 (h : MemoR W p g n c T) : W.cell? ⟨p, 0, none⟩ = some (.slice (some ⟨g, 0, none⟩) n c) := h.blk.cell 0
theorem MemoR.c1 (h : MemoR W p g n c T) : W.cell? ⟨p, 1, none⟩ = some (.int .i64 (lenP T n : Nat)) := h.blk.cell 1
theorem row_lt {base n c g : Nat} {e : TypeId} {size : Nat} {xs : List Value} (h : W.ownsRow base e size (.slice (some ⟨g, 0, none⟩) n c) n xs) : g < W.heap.size ∧ n ≤ c := by
  rcases h.2 with ⟨h', h0⟩ | ⟨g', cap, cur, h', _, hg, hc, _⟩
  · cases h'
  · injection h' with h1 _ h2
    injection h1 with h1
    injection h1 with h1
    subst h2
    exact ⟨h1 ▸ (Array.getElem?_eq_some_iff.1 hg).1, hc⟩
theorem MemoR.gp (h : MemoR W p g n c T) : g ≠ p := fun e => own_blk_ne h.row h.blk (by decide) (by rw [e]; rfl)
theorem MemoR.glt (h : MemoR W p g n c T) : g < W.heap.size := (row_lt h.row).1
theorem MemoR.below (h : MemoR W p g n c T) (hb : Below W.heap.size W W') : MemoR W' p g n c T :=
  ⟨h.blk.below hb h.blk.lt, own_below h.row hb, h.room⟩
/-- What stands under p and g is not touched. -/
theorem MemoR.only {own : Nat → Prop} (h : MemoR W p g n c T) (ho : Only own W W') (hp : ¬ own p) (hg : ¬ own g) : MemoR W' p g n c T :=
  ⟨ho.blk h.blk hp, ho.row h.row (fun k e => (show g = k by simpa [Value.ownBlock] using e) ▸ hg), h.room⟩
/-- The cells of a place. -/
theorem MemoR.place (h : MemoR W p g n c T) {s i : Nat} (hs : s < n) (hi : i < 5) : W.cell? ⟨g, s * 5 + i, none⟩ = (plC (T s))[i]? ∧ W.frozen? ⟨g, s * 5 + i, none⟩ = false := by
  refine ⟨?_, h.row.frozenAt _⟩
  rw [h.row.cellAt _ (by omega)]
  exact placesC_at T hi hs
end
end Go.Proofs.Ytdgjbbcalffbcaa.Mem
