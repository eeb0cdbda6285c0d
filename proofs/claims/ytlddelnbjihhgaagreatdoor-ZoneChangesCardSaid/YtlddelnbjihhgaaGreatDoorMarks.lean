/- A function that goes through several ranges over functions leaves with a mark for each: they are taken up one by one. Nothing of the program stands here. -/
import Derived.Test.YtlddelnbjihhgaaGreatDoorBlocks
import Derived.RangeFuncLeaves
import Derived.RangeFuncRecord
namespace Go.Proofs.YtlddelnbjihhgaaGreatDoor
open Go.RowKit

def mark (D : Nat) : Deferred := { target := .collected D, args := #[] }
/-- The marks' blocks lie from B on, and hold no call. -/
def Marks (B : Nat) (Ds : List Nat) (W : World) : Prop := Ds.Nodup ∧ ∀ D, D ∈ Ds → B ≤ D ∧ W.heap[D]? = some (.deferred (some []))
theorem marks_nil (B : Nat) (W : World) : Marks B [] W := ⟨List.nodup_nil, fun D h => by cases h⟩
theorem Marks.lt {B : Nat} {Ds : List Nat} {W : World} (h : Marks B Ds W) {D : Nat} (hD : D ∈ Ds) : D < W.heap.size := (Array.getElem?_eq_some_iff.1 (h.2 D hD).2).1
theorem Marks.keep {B : Nat} {Ds : List Nat} {W W' : World} (h : Marks B Ds W) (hk : KeepsFrom B W W') : Marks B Ds W' := ⟨h.1, fun D hD => ⟨(h.2 D hD).1, hk.same D _ (h.2 D hD).1 (h.2 D hD).2 rfl⟩⟩
theorem Marks.cons {B D : Nat} {Ds : List Nat} {W : World} (h : Marks B Ds W) (hB : B ≤ D) (hD : W.heap[D]? = some (.deferred (some []))) (hn : ∀ D', D' ∈ Ds → D' ≠ D) : Marks B (D :: Ds) W := by
  refine ⟨List.nodup_cons.2 ⟨fun hm => hn D hm rfl, h.1⟩, fun D' hD' => ?_⟩
  rcases List.mem_cons.1 hD' with rfl | hm
  · exact ⟨hB, hD⟩
  · exact h.2 D' hm
theorem leaves_marks {F : Fence} {n : Nat} {P : Program} {fn : Func} {tmps : Array Value} {R : Ending → World → Prop} {B : Nat} : ∀ (Ds : List Nat) (W : World), B ≤ W.heap.size → Marks B Ds W → (∀ W', Below B W W' → LeavesInM F n P fn tmps R [] .returning W') → LeavesInM F n P fn tmps R (Ds.map mark) .returning W := by
  intro Ds
  induction Ds with
  | nil => intro W _ _ h; exact h W (Below.refl _ _)
  | cons D Ds ih =>
    intro W hBW hM h
    have hD := (hM.2 D (by simp)).2
    have hb : Below B W (W.putObj D (.deferred none)) := (Below.refl B W).grown (grownBy_putObj' W D (.deferred none)) hBW (fun r e => by cases e; exact (hM.2 D (by simp)).1)
    refine ⟨by simp, .inl ⟨D, _, rfl, run_takeDeferred hD, ?_⟩⟩
    refine ih _ (Nat.le_trans hBW hb.size) ⟨(List.nodup_cons.1 hM.1).2, fun D' hD' => ⟨(hM.2 D' (by simp [hD'])).1, ?_⟩⟩ (fun W' hW' => h W' (hb.trans hW'))
    have hne : D' ≠ D := fun e => (List.nodup_cons.1 hM.1).1 (e ▸ hD')
    exact (World.putObj_heap_other (fun e => hne (by rw [e]))).trans (hM.2 D' (by simp [hD'])).2
end Go.Proofs.YtlddelnbjihhgaaGreatDoor
