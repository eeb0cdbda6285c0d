/- The contract of Copy: an arena of its own that holds the same nodes under the same numbers. -/
import Derived.Test.YtchipmiklbnedaaDoorNSameWalk
import Derived.WalkSpells
namespace Go.Proofs.YtchipmiklbnedaaDoor
open Go.RowKit
attribute [local go_sem ↓] Go.wp_at_zero Go.wp_at_succ

/-- slices.Clone: the same cells, in a row of its own. -/
def RetClone (t : TypeId) (size n : Nat) (xs : List Value) (w : World) (e : Ending) (w' : World) : Prop :=
  ∃ A c, e = .returned (.slice A n c) ∧ w'.ownsRow 0 t size (.slice A n c) n xs ∧ (∀ g, (Value.slice A n c).ownBlock = some g → w.heap.size ≤ g) ∧ Below w.heap.size w w'
theorem clone_end {w W' : World} {t : TypeId} {size n : Nat} {xs : List Value} {v : Value} (h : W'.ownsRow w.heap.size t size v n xs) (hb : Below w.heap.size w W') : RetClone t size n xs w (.returned v) W' := by
  have h' : W'.ownsRow 0 t size v n xs := by
    refine ⟨h.1, ?_⟩
    rcases h.2 with h | ⟨k, cap, cur, h1, _, h3⟩
    · exact .inl h
    · exact .inr ⟨k, cap, cur, h1, Nat.zero_le _, h3⟩
  rcases h.2 with ⟨rfl, h0⟩ | ⟨g, cap, cur, rfl, _⟩
  · subst h0
    exact ⟨none, 0, rfl, h', fun g hg => (h.lt g hg).1, hb⟩
  · exact ⟨_, _, rfl, h', fun g hg => (h.lt g hg).1, hb⟩
theorem cellsL_one (L : List Nd) : ∀ u ∈ cellsL L, u.oneCell' = true := fun u hu => by
  unfold cellsL at hu
  obtain ⟨x, -, hx⟩ := List.mem_flatMap.1 hu
  simp at hx
  rcases hx with rfl | rfl | rfl <;> rfl
theorem placesL_one (P : Nat) (T : Nat → Nat) : ∀ u ∈ placesL P T, u.oneCell' = true := fun u hu => by
  unfold placesL at hu
  obtain ⟨s, -, rfl⟩ := List.mem_map.1 hu
  rfl
set_option maxRecDepth 100000 in
theorem clone_nodes {W : World} {A : Option Addr} {n c : Nat} {xs : List Value} (h : W.ownsRow 0 42 3 (.slice A n c) n xs) (hn : n ≤ 20000) (hone : ∀ u ∈ xs, u.oneCell' = true) : Calls Tryd.prog 43 #[.slice A n c] W (RetClone 42 3 n xs W) := by
  have hinfo : (Tryd.prog.info? 42).map (fun i => (i.zero, i.size, i.bytes)) = some (some (.agg #[.int .i64 0, .int .i64 0, .int .i64 0]), 3, 24) := by kernel_rfl
  obtain ⟨i0, hi, hz0, hz1, hz2⟩ := info_parts hinfo
  rcases h.2 with ⟨hv, h0⟩ | ⟨g, cap, cur, hv, _, hg, hc, _⟩
  · injection hv with h1 h2 h3
    subst h1; subst h2; subst h3
    have hnil := Lib.run_eql_slice_nil (P := Tryd.prog) W 61 42 none 0 0 0 0 Tryd.underlying61
    have HR := Lib.hid h
    clear h h0 hn hone hinfo hi hz0 hz1 hz2
    go_enter Tryd.func43, Tryd.ntmps43
    go_wp2_with fail
    go_ret
    exact ⟨none, 0, rfl, HR.out, fun g hg => by simp [Value.ownBlock] at hg, Below.refl _ _⟩
  · injection hv with h1 _ h2
    subst h1
    subst h2
    have hglt : g < W.heap.size := (Array.getElem?_eq_some_iff.1 hg).1
    have hnil := Lib.run_eql_slice_nil (P := Tryd.prog) W 61 42 (some ⟨g, 0, none⟩) n c 0 0 Tryd.underlying61
    have hxl := h.1
    have hnews : Hid (∀ j u, xs[j]? = some u → (W.alloc (.cells #[] 42)).cell? ((⟨g, 0, none⟩ : Addr).add j) = some u) := Lib.hid fun j u hu => by
      have hb := (Below.refl W.heap.size W).alloc (Nat.le_refl _) (.cells #[] 42)
      rw [Addr.add_lit, Nat.zero_add, hb.cell (p := ⟨g, j, none⟩) hglt, h.cellAt j (by have := (List.getElem?_eq_some_iff.1 hu).1; omega)]
      exact hu
    have hown := Lib.hid (World.ownsRow_lit (base := W.heap.size) (e := 42) (size := 3) W #[] 0 (Nat.le_refl _) (by unfold maxLen; omega) rfl)
    have hsz : Hid (n ≤ maxLen ∧ n * 24 ≤ 140737488355328 ∧ W.heap.size ≤ (W.alloc (.cells #[] 42)).heap.size) := Lib.hid ⟨by unfold maxLen; omega, by omega, by simp⟩
    have HOne := Lib.hid hone
    have HLen := Lib.hid hxl
    clear h hinfo hg hone hxl hglt hc
    go_enter Tryd.func43, Tryd.ntmps43
    go_wp2_with (at_builtin; refine wpList_append_at rfl _ _ 61 rfl W.heap.size 42 i0 (.agg #[.int .i64 0, .int .i64 0, .int .i64 0]) 3 24 Tryd.underlying61 hi hz0 hz1 hz2 rfl (by decide) _ _ _ rfl hown.out ⟨g, 0, none⟩ n c xs rfl HLen.out hnews.out HOne.out ?_ ?_ hsz.out.2.2 ?_; have := hsz.out.1; omega; have := hsz.out.2.1; omega; intro v' w' hown' hgrow _; have HO := Lib.hid hown'; have HG := Lib.hid hgrow; clear hown' hgrow)
    go_ret
    have hb := (Below.refl W.heap.size W).alloc (Nat.le_refl _) (.cells #[] 42)
    have hO := HO.out
    rw [Nat.zero_add, List.nil_append] at hO
    refine clone_end hO ?_
    exact hb.grown HG.out hsz.out.2.2 (fun k hk => Nat.le_of_eq (Option.some.inj (show some W.heap.size = some k from hk)))
set_option maxRecDepth 100000 in
theorem clone_ints {W : World} {A : Option Addr} {n c : Nat} {xs : List Value} (h : W.ownsRow 0 3 1 (.slice A n c) n xs) (hn : n ≤ 20000) (hone : ∀ u ∈ xs, u.oneCell' = true) : Calls Tryd.prog 44 #[.slice A n c] W (RetClone 3 1 n xs W) := by
  have hinfo : (Tryd.prog.info? 3).map (fun i => (i.zero, i.size, i.bytes)) = some (some (.int .i64 0), 1, 8) := by kernel_rfl
  obtain ⟨i0, hi, hz0, hz1, hz2⟩ := info_parts hinfo
  rcases h.2 with ⟨hv, h0⟩ | ⟨g, cap, cur, hv, _, hg, hc, _⟩
  · injection hv with h1 h2 h3
    subst h1; subst h2; subst h3
    have hnil := Lib.run_eql_slice_nil (P := Tryd.prog) W 51 3 none 0 0 0 0 Tryd.underlying51
    have HR := Lib.hid h
    clear h h0 hn hone hinfo hi hz0 hz1 hz2
    go_enter Tryd.func44, Tryd.ntmps44
    go_wp2_with fail
    go_ret
    exact ⟨none, 0, rfl, HR.out, fun g hg => by simp [Value.ownBlock] at hg, Below.refl _ _⟩
  · injection hv with h1 _ h2
    subst h1
    subst h2
    have hglt : g < W.heap.size := (Array.getElem?_eq_some_iff.1 hg).1
    have hnil := Lib.run_eql_slice_nil (P := Tryd.prog) W 51 3 (some ⟨g, 0, none⟩) n c 0 0 Tryd.underlying51
    have hxl := h.1
    have hnews : Hid (∀ j u, xs[j]? = some u → (W.alloc (.cells #[] 3)).cell? ((⟨g, 0, none⟩ : Addr).add j) = some u) := Lib.hid fun j u hu => by
      have hb := (Below.refl W.heap.size W).alloc (Nat.le_refl _) (.cells #[] 3)
      rw [Addr.add_lit, Nat.zero_add, hb.cell (p := ⟨g, j, none⟩) hglt, h.cellAt j (by have := (List.getElem?_eq_some_iff.1 hu).1; omega)]
      exact hu
    have hown := Lib.hid (World.ownsRow_lit (base := W.heap.size) (e := 3) (size := 1) W #[] 0 (Nat.le_refl _) (by unfold maxLen; omega) rfl)
    have hsz : Hid (n ≤ maxLen ∧ n * 8 ≤ 140737488355328 ∧ W.heap.size ≤ (W.alloc (.cells #[] 3)).heap.size) := Lib.hid ⟨by unfold maxLen; omega, by omega, by simp⟩
    have HOne := Lib.hid hone
    have HLen := Lib.hid hxl
    clear h hinfo hg hone hxl hglt hc
    go_enter Tryd.func44, Tryd.ntmps44
    go_wp2_with (at_builtin; refine wpList_append_at rfl _ _ 51 rfl W.heap.size 3 i0 (.int .i64 0) 1 8 Tryd.underlying51 hi hz0 hz1 hz2 rfl (by decide) _ _ _ rfl hown.out ⟨g, 0, none⟩ n c xs rfl HLen.out hnews.out HOne.out ?_ ?_ hsz.out.2.2 ?_; have := hsz.out.1; omega; have := hsz.out.2.1; omega; intro v' w' hown' hgrow _; have HO := Lib.hid hown'; have HG := Lib.hid hgrow; clear hown' hgrow)
    go_ret
    have hb := (Below.refl W.heap.size W).alloc (Nat.le_refl _) (.cells #[] 3)
    have hO := HO.out
    rw [Nat.zero_add, List.nil_append] at hO
    refine clone_end hO ?_
    exact hb.grown HG.out hsz.out.2.2 (fun k hk => Nat.le_of_eq (Option.some.inj (show some W.heap.size = some k from hk)))
theorem keep_p {w w1 : World} {p : Nat} {x y z : Option Value} (hb : Below w.heap.size w w1) (h : p < w.heap.size ∧ w.cell? ⟨p, 0, none⟩ = x ∧ w.cell? ⟨p, 1, none⟩ = y ∧ w.cell? ⟨p, 2, none⟩ = z) : p < w1.heap.size ∧ w1.cell? ⟨p, 0, none⟩ = x ∧ w1.cell? ⟨p, 1, none⟩ = y ∧ w1.cell? ⟨p, 2, none⟩ = z :=
  ⟨Nat.lt_of_lt_of_le h.1 hb.size, (hb.cell (p := ⟨p, 0, none⟩) h.1).trans h.2.1, (hb.cell (p := ⟨p, 1, none⟩) h.1).trans h.2.2.1, (hb.cell (p := ⟨p, 2, none⟩) h.1).trans h.2.2.2⟩
theorem keep_p_new {w : World} {p : Nat} {x y z : Option Value} (o : Obj) (h : p < w.heap.size ∧ w.cell? ⟨p, 0, none⟩ = x ∧ w.cell? ⟨p, 1, none⟩ = y ∧ w.cell? ⟨p, 2, none⟩ = z) : p < (w.alloc o).heap.size ∧ (w.alloc o).cell? ⟨p, 0, none⟩ = x ∧ (w.alloc o).cell? ⟨p, 1, none⟩ = y ∧ (w.alloc o).cell? ⟨p, 2, none⟩ = z :=
  keep_p ((Below.refl _ _).alloc (Nat.le_refl _) o) h
/-- Copy. -/
def RetCopy (lim : Nat) (L : List Nd) (w : World) (e : Ending) (w' : World) : Prop := ∃ (p' : Nat) (own' : Nat → Prop), e = .returned (.pointer (some ⟨p', 0, none⟩)) ∧ Arena w' own' p' lim L ∧ (∀ i, own' i → w.heap.size ≤ i) ∧ Below w.heap.size w w'
theorem copy_arena {w w2 : World} {own : Nat → Prop} {p lim P cn cp a c : Nat} {L : List Nd} {T : Nat → Nat} {An Ap A1 A2 : Option Addr} (h : ArenaR w own p lim L P T An Ap cn cp) (h1 : w2.ownsRow 0 42 3 (.slice A1 L.length a) L.length (cellsL L)) (h2 : w2.ownsRow 0 3 1 (.slice A2 P c) P (placesL P T)) :
    ArenaR (w2.alloc (.cells #[.int .i64 lim, .slice A1 L.length a, .slice A2 P c] 64)) (fun i => i = w2.heap.size ∨ (Value.slice A1 L.length a).ownBlock = some i ∨ (Value.slice A2 P c).ownBlock = some i) w2.heap.size lim L P T A1 A2 a c := by
  have hb := (Below.refl w2.heap.size w2).alloc (Nat.le_refl _) (.cells #[.int .i64 lim, .slice A1 L.length a, .slice A2 P c] 64)
  refine ⟨Blk.new _ _ _, .inl rfl, fun g e => .inr (.inl e), fun g e => .inr (.inr e), fun i hi => ?_, own_below h1 hb, own_below h2 hb, h.limit, h.few, h.room⟩
  rcases hi with rfl | hi | hi
  · simp
  · have := (h1.lt i hi).2; simp; omega
  · have := (h2.lt i hi).2; simp; omega
set_option maxRecDepth 100000 in
set_option maxHeartbeats 1600000 in
theorem copy_any {W : World} {own : Nat → Prop} {p lim : Nat} {L : List Nd} (hA : Arena W own p lim L) : Calls Tryd.prog 30 #[.pointer (some ⟨p, 0, none⟩)] W (RetCopy lim L W) := by
  obtain ⟨P, T, An, Ap, cn, cp, hR, hrest⟩ := hA
  have hb0 := (Below.refl W.heap.size W).drew
  have h0 := hR.below hb0
  have HC := Lib.hid (clone_nodes h0.rowN (by have := hR.few; omega) (cellsL_one L))
  have HD : Hid (∀ w1, Below W.drew.heap.size W.drew w1 → Calls Tryd.prog 44 #[.slice Ap P cp] w1 (RetClone 3 1 P (placesL P T) w1)) := Lib.hid fun w1 hb1 => clone_ints (h0.below hb1).rowP hR.room (placesL_one P T)
  have K0 : Hid (p < W.drew.heap.size ∧ W.drew.cell? ⟨p, 0, none⟩ = some (.int .i64 lim) ∧ W.drew.cell? ⟨p, 1, none⟩ = some (.slice An L.length cn) ∧ W.drew.cell? ⟨p, 2, none⟩ = some (.slice Ap P cp)) := Lib.hid ⟨h0.blk.lt, h0.c0, h0.c1, h0.c2⟩
  have HR := Lib.hid (And.intro hR hrest)
  clear hR hrest hb0 h0
  go_enter Tryd.func30, Tryd.ntmps30
  go_wp2_with fail
  go_region_held3 (fun w' => p < w'.heap.size ∧ w'.cell? ⟨p, 0, none⟩ = some (.int .i64 lim) ∧ w'.cell? ⟨p, 1, none⟩ = some (.slice An L.length cn) ∧ w'.cell? ⟨p, 2, none⟩ = some (.slice Ap P cp))
    (first | (with_reducible exact K0.out) | (with_reducible exact keep_p hb1 K0.out) | (with_reducible exact keep_p hb2 (keep_p hb1 K0.out)) | (with_reducible exact keep_p_new _ (keep_p hb2 (keep_p hb1 K0.out))))
    (first
      | (go_at_call 43; ((with_reducible refine HC.out.mono ?_); rintro e w1 ⟨A1, a, rfl, ho1, hg1, hb1⟩); have HO1 := Lib.hid ho1; have HG1 := Lib.hid hg1; clear ho1 hg1)
      | (go_at_call 44; ((with_reducible refine (HD.out _ hb1).mono ?_); rintro e w2 ⟨A2, c, rfl, ho2, hg2, hb2⟩); have HO2 := Lib.hid ho2; have HG2 := Lib.hid hg2; clear ho2 hg2))
  have HB1 := Lib.hid hb1
  have HB2 := Lib.hid hb2
  clear hb1 hb2
  go_wp2_with fail
  go_ret
  have hbw1 : Below W.heap.size W w1 := (Below.refl W.heap.size W).drew.trans HB1.out
  have hbw2 : Below W.heap.size W w2 := hbw1.trans (HB2.out.mono hbw1.size)
  refine ⟨_, _, rfl, ⟨P, T, A1, A2, a, c, copy_arena HR.out.1 (own_below HO1.out HB2.out) HO2.out, HR.out.2⟩, fun i hi => ?_, hbw2.alloc hbw2.size _⟩
  rcases hi with rfl | hi | hi
  · exact hbw2.size
  · exact HG1.out i hi
  · exact Nat.le_trans hbw1.size (HG2.out i hi)
end Go.Proofs.YtchipmiklbnedaaDoor
