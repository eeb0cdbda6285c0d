/- The contract of met: all refs below one, each once. -/
import Derived.Test.YtcolinjgfcjimaaCBase
import Derived.Deep.LoopGhost
namespace Go.Proofs.Ytcolinjgfcjimaa
open Go.RowKit
attribute [local go_sem ↓] Go.wp_at_zero Go.wp_at_succ

/-- While the refs are met: the row, and the set of what is in it; all of the first i have their children in it. -/
structure Met (w : World) (own : Nat → Prop) (p lim : Nat) (L : List Nd) (f : Int) (bm i : Nat) (R : List Int) (v : Value) (W : World) : Prop where
  arena : Arena W own p lim L
  low : Below w.heap.size w W
  row : W.ownsRow w.heap.size 3 1 v R.length (R.map (Value.int .i64))
  set_ : SetM W bm R.length R
  new : w.heap.size ≤ bm
  far : ∀ i, own i → i < w.heap.size
  nodup : R.Nodup
  head : f ∈ R
  reach : ∀ r ∈ R, Reach L f r
  le : i ≤ R.length
  closed : ∀ (j k : Nat) (x : Nd), j < i → R[j]? = some (k : Int) → L[k]? = some x → x.2.1 ∈ R ∧ x.2.2 ∈ R
theorem ne_set {w : World} {b n g0 : Nat} {S : List Int} {t : TypeId} {cs : Array Value} (h : SetM w b n S) (hb : w.heap[g0]? = some (.cells cs t (0, 0))) : ¬ g0 = b := by
  rintro rfl
  obtain ⟨D, ⟨es, clock, hh, -⟩, -⟩ := h
  rw [hh] at hb
  cases hb
section
variable {w W W1 W2 : World} {own : Nat → Prop} {p lim bm i : Nat} {L : List Nd} {f : Int} {R : List Int} {v v' : Value}
theorem Met.below (h : Met w own p lim L f bm i R v W) (hb : Below W.heap.size W W1) : Met w own p lim L f bm i R v W1 :=
  ⟨h.arena.below hb, h.low.trans (hb.mono h.low.size), own_below h.row hb, h.set_.below hb h.set_.lt, h.new, h.far, h.nodup, h.head, h.reach, h.le, h.closed⟩
theorem Met.few (h : Met w own p lim L f bm i R v W) : R.length ≤ 8001 := by
  have h1 := reach_few h.nodup h.reach
  have h2 := h.arena.few
  omega
theorem Met.ownNe (h : Met w own p lim L f bm i R v W) : v.ownBlock ≠ some bm := by
  intro e
  rcases h.row.2 with ⟨rfl, _⟩ | ⟨g', cap, cur, rfl, _, hh, _⟩
  · simp [Value.ownBlock] at e
  · have : g' = bm := by simpa [Value.ownBlock] using e
    exact ne_set h.set_ hh this
/-- A child that is in the set of what was met, put into it. -/
theorem Met.put {c : Int} (h : Met w own p lim L f bm i R v W) (hc : I64 c) : ∃ W1, (Instr.mapUpdate 93 (.map (some bm)) (.int .i64 c) (.agg #[])).run Try.prog W = .ok () W1 ∧ SetM W1 bm (R.length + 1) (R ++ [c]) ∧ W.grownBy W1 (some bm) := h.set_.put c hc (by have := h.few; unfold maxLen; omega)
theorem Met.afterPut {c : Int} (h : Met w own p lim L f bm i R v W) (hs : SetM W1 bm (R.length + 1) (R ++ [c])) (hg : W.grownBy W1 (some bm)) : Arena W1 own p lim L ∧ Below w.heap.size w W1 ∧ W1.ownsRow w.heap.size 3 1 v R.length (R.map (Value.int .i64)) ∧ SetM W1 bm (R.length + 1) (R ++ [c]) := by
  have ho : Only (fun i => i = bm) W W1 := Only.of_grown hg fun r e => by simpa using e.symm
  exact ⟨h.arena.only ho fun i hi e => by have := h.far i hi; have := h.new; omega, h.low.trans (ho.below h.low.size fun i e => e ▸ h.new), h.row.kept hg (.inr h.ownNe), hs⟩
theorem Met.add {c : Int} (h : Met w own p lim L f bm i R v W) (hc : c ∉ R) (hr : Reach L f c) (ha : Arena W1 own p lim L) (hb : Below w.heap.size w W1) (hrow : W1.ownsRow w.heap.size 3 1 v R.length (R.map (Value.int .i64))) (hs : SetM W1 bm (R.length + 1) (R ++ [c]))
    (ho : W2.ownsRow w.heap.size 3 1 v' (R.length + 1) (R.map (Value.int .i64) ++ [.int .i64 c])) (hg : W1.grownBy W2 v.ownBlock) : Met w own p lim L f bm i (R ++ [c]) v' W2 := by
  have hne : v.ownBlock ≠ some bm := by
    intro e
    rcases hrow.2 with ⟨rfl, _⟩ | ⟨g', cap, cur, rfl, _, hh, _⟩
    · simp [Value.ownBlock] at e
    · have : g' = bm := by simpa [Value.ownBlock] using e
      exact ne_set hs hh this
  refine ⟨ha.only (own1 := fun i => v.ownBlock = some i) (Only.of_grown hg fun r e => e) fun i hi e => ?_, hb.grown hg hb.size fun k hk => (hrow.lt k hk).1, ?_, ?_, h.new, h.far, ?_, ?_, ?_, by have := h.le; rw [List.length_append]; omega, ?_⟩
  · have h1 := h.far i hi
    have h2 := (hrow.lt i e).1
    omega
  · rw [List.length_append, List.map_append]; exact ho
  · rw [List.length_append]; exact hs.kept hg fun e => hne e.symm
  · rw [List.nodup_append]
    exact ⟨h.nodup, by simp, fun a ha b hb => by rw [List.mem_singleton] at hb; rw [hb]; rintro rfl; exact hc ha⟩
  · exact List.mem_append_left _ h.head
  · intro r hr'
    rcases List.mem_append.1 hr' with h1 | h1
    · exact h.reach r h1
    · rw [List.mem_singleton] at h1; rw [h1]; exact hr
  · intro j k x hj hk hx
    by_cases hjl : j < R.length
    · rw [List.getElem?_append_left hjl] at hk
      obtain ⟨h1, h2⟩ := h.closed j k x hj hk hx
      exact ⟨List.mem_append_left _ h1, List.mem_append_left _ h2⟩
    · have := h.le
      omega
/-- One more of them has its children in the row. -/
theorem Met.next {r : Int} (h : Met w own p lim L f bm i R v W) (hr : R[i]? = some r) (hk : ∀ (k : Nat) (x : Nd), r = (k : Int) → L[k]? = some x → x.2.1 ∈ R ∧ x.2.2 ∈ R) : Met w own p lim L f bm (i + 1) R v W :=
  ⟨h.arena, h.low, h.row, h.set_, h.new, h.far, h.nodup, h.head, h.reach, (List.getElem?_eq_some_iff.1 hr).1, fun j k x hj hjr hx => by
    by_cases e : j = i
    · subst e
      rw [hr] at hjr
      exact hk k x (by injection hjr) hx
    · exact h.closed j k x (by omega) hjr hx⟩
theorem Met.all (h : Met w own p lim L f bm R.length R v W) : ∀ r, r ∈ R ↔ Reach L f r :=
  fun r => ⟨h.reach r, reach_row h.head (fun k x hk hx => by
    obtain ⟨j, hj⟩ := List.mem_iff_getElem?.1 hk
    exact h.closed j k x (List.getElem?_eq_some_iff.1 hj).1 hj hx) r⟩
end
theorem get_len' {R : List Int} {i : Nat} {x : Int} (h : R[i]? = some x) : i < R.length := (List.getElem?_eq_some_iff.1 h).1
/-- What met tells: a row of all refs below f, each once. -/
def RetMet (L : List Nd) (f : Int) (w : World) (e : Ending) (w' : World) : Prop := ∃ (g c : Nat) (R : List Int), e = .returned (.slice (some ⟨g, 0, none⟩) R.length c) ∧ w'.ownsRow w.heap.size 3 1 (.slice (some ⟨g, 0, none⟩) R.length c) R.length (R.map (Value.int .i64)) ∧ Below w.heap.size w w' ∧ R.Nodup ∧ (∀ r, r ∈ R ↔ Reach L f r) ∧ R.length ≤ 8001
section
variable {W : World} {own : Nat → Prop} {p lim : Nat} {L : List Nd} {f : Int}
theorem met_none (h : Arena W own p lim L) (hf : hasP L.length f = false) : Calls Try.prog 40 #[.pointer (some ⟨p, 0, none⟩), .int .i64 f] W (RetW (.slice none 0 0) W) := by
  have HH := arena_has (r := f) h
  rw [hf] at HH
  have HH := Lib.hid HH
  clear h hf
  go_enter Try.func40, Try.ntmps40
  go_wp2_with (go_at_call 24; ((with_reducible refine HH.out.mono ?_); rintro e w1 ⟨rfl, rfl⟩))
  go_ret
  exact ⟨rfl, rfl⟩
theorem met_start (h : Arena W own p lim L) (hf : I64 f) : ∃ W3, (Instr.mapUpdate 93 (.map (some (W.heap.size + 1))) (.int .i64 f) (.agg #[])).run Try.prog ((W.alloc (.cells #[.int .i64 f] 3)).alloc (.map #[] 0)) = .ok () W3 ∧ Met W own p lim L f (W.heap.size + 1) 0 [f] (.slice (some ⟨W.heap.size, 0, none⟩) 1 1) W3 := by
  have hs := setM_new (W.alloc (.cells #[.int .i64 f] 3))
  rw [World.size_alloc] at hs
  have hb := ((Below.refl W.heap.size W).alloc (Nat.le_refl _) (.cells #[.int .i64 f] 3)).alloc (by simp) (.map #[] 0)
  obtain ⟨W3, h1, h2, h3⟩ := hs.put f hf (by unfold maxLen; omega)
  have ho : Only (fun i => i = W.heap.size + 1) _ W3 := Only.of_grown h3 fun r e => by simpa using e.symm
  have r0 := World.ownsRow_lit (base := W.heap.size) (e := 3) (size := 1) W #[.int .i64 f] 1 (Nat.le_refl _) (by unfold maxLen; omega) rfl
  refine ⟨W3, h1, (h.below hb).only ho fun i hi e => by have := h.old i hi; omega, hb.trans (ho.below hb.size fun i e => by omega), (r0.alloc _).kept h3 (.inr (by simp [Value.ownBlock])), h2, Nat.le_succ _, h.old, by simp, by simp, fun r hr => ?_, Nat.zero_le _, fun j k x hj => absurd hj (Nat.not_lt_zero _)⟩
  rw [List.mem_singleton] at hr
  rw [hr]
  exact .self
set_option maxRecDepth 100000 in
set_option maxHeartbeats 3200000 in
theorem met_any (h : Arena W own p lim L) (hf : hasP L.length f = true) : Calls Try.prog 40 #[.pointer (some ⟨p, 0, none⟩), .int .i64 f] W (RetMet L f W) := by
  have hI : I64 f := by rw [hasP_iff] at hf; have := h.few; unfold I64; omega
  have hR := h.right
  have hh := arena_has (r := f) h
  rw [hf] at hh
  obtain ⟨W3, hrun, hm⟩ := met_start h hI
  have HH := Lib.hid hh
  have HM := Lib.hid hm
  have HR := Lib.hid hR
  have HF := Lib.hid hf
  have hmm := @run_makeMap Try.prog
  have p0 := pick_0
  have p1 := pick_1
  have hinfo : (Try.prog.info? 3).map (fun i => (i.zero, i.size, i.bytes)) = some (some (.int .i64 0), 1, 8) := by kernel_rfl
  obtain ⟨i0, hi, hz0, hz1, hz2⟩ := info_parts hinfo
  have HI0 := Lib.hid (And.intro hi (And.intro hz0 (And.intro hz1 hz2)))
  clear h hf hI hh hm hR hinfo hi hz0 hz1 hz2
  go_enter Try.func40, Try.ntmps40
  go_wp2_with (go_at_call 24; ((with_reducible refine HH.out.mono ?_); rintro e w1 ⟨rfl, rfl⟩))
  go_loopg [5, 7] 8002 (fun gk t5 t7 wr => ∃ (i g c : Nat) (R : List Int), i + gk = 8002 ∧ t7 = .int .i64 (i : Int) ∧ t5 = .slice (some ⟨g, 0, none⟩) R.length c ∧ Met W own p lim L f (W.heap.size + 1) i R (.slice (some ⟨g, 0, none⟩) R.length c) wr)
  case atStart => exact ⟨0, W.heap.size, 1, [f], rfl, rfl, rfl, HM.out⟩
  case round =>
    rename Nat => g0
    obtain ⟨i, g, c, R, hi, rfl, rfl, hM⟩ := hrel
    have HMt := Lib.hid hM
    have HIg := Lib.hid hi
    clear hi
    by_cases hir : i < R.length
    · obtain ⟨r, hr⟩ : ∃ r, R[i]? = some r := ⟨_, List.getElem?_eq_getElem hir⟩
      have HRi := Lib.hid hr
      have hce : wr.cell? ⟨g, i, none⟩ = some (.int .i64 r) := (hM.row.cellAt i (by omega)).trans (by rw [List.getElem?_map, hr]; rfl)
      have hrc := hM.reach r (List.mem_of_getElem? hr)
      have hfew := hM.few
      have hrh := hrc.has HR.out HF.out
      have HRc := Lib.hid hrc
      by_cases hn : 0 ≤ r ∧ r < (L.length : Int)
      · obtain ⟨k, rfl⟩ : ∃ k : Nat, r = (k : Int) := ⟨r.toNat, by omega⟩
        obtain ⟨x1, x2, x3, hx⟩ := node_named (show k < L.length by omega)
        have HX := Lib.hid hx
        have HG := Lib.hid (arena_get hM.arena hx)
        have hk2 := (Reach.low hrc hx).has HR.out HF.out
        have hk3 := (Reach.high hrc hx).has HR.out HF.out
        have hfl := hM.arena.few
        rw [hasP_iff] at hk2 hk3
        have I2 : Hid (I64 x2) := Lib.hid (by unfold I64; dsimp only at hk2; omega)
        have I3 : Hid (I64 x3) := Lib.hid (by unfold I64; dsimp only at hk3; omega)
        have Q2 : Hid (Reach L f x2) := Lib.hid (Reach.low hrc hx)
        have Q3 : Hid (Reach L f x3) := Lib.hid (Reach.high hrc hx)
        clear hM hr hrc hrh hn hx hk2 hk3 hfl
        go_wp2_with (first
          | (go_at_call 56; ((with_reducible refine HG.out.mono ?_); rintro e w1 ⟨rfl, hb1⟩); have H1 := Lib.hid hb1; clear hb1))
        have HM2 := Lib.hid (HMt.out.below (H1.out.alloc H1.out.size (.cells #[.int .i64 (x1), .int .i64 x2, .int .i64 x3] 78)))
        go_loopg [5, 46] 2 (fun gk t5 t46 wq => ∃ (j g c : Nat) (R : List Int), j + gk = 2 ∧ t46 = .int .i64 (j : Int) ∧ t5 = .slice (some ⟨g, 0, none⟩) R.length c ∧ Met W own p lim L f (W.heap.size + 1) i R (.slice (some ⟨g, 0, none⟩) R.length c) wq ∧ R[i]? = some (k : Int) ∧ (1 ≤ j → x2 ∈ R) ∧ (2 ≤ j → x3 ∈ R))
        case atStart => exact ⟨0, g, c, R, rfl, rfl, rfl, HM2.out, HRi.out, fun h => absurd h (by omega), fun h => absurd h (by omega)⟩
        case round =>
          rename Nat => g1
          obtain ⟨j, gg, cc, S, hj, rfl, rfl, hM, hS, h2, h3⟩ := hrel
          have hsf := hM.few
          have HMq := Lib.hid hM
          have HSi := Lib.hid hS
          have H23 := Lib.hid (And.intro h2 h3)
          have HJ := Lib.hid hj
          clear hM hS h2 h3 hj
          by_cases hj2 : 2 ≤ j
          · obtain rfl : j = 2 := by have := HJ.out; omega
            go_wp2_with fail
            have hi := HIg.out
            go_roundg (g0 - 1)
            case measure => omega
            case rel => exact ⟨i + 1, gg, cc, S, by omega, by simp, rfl, HMq.out.next HSi.out fun k' x e hx => by
              obtain rfl : k = k' := by omega
              rw [HX.out] at hx
              cases hx
              exact ⟨H23.out.1 (by omega), H23.out.2 (Nat.le_refl _)⟩⟩
          · rcases (show j = 0 ∨ j = 1 by omega) with rfl | rfl
            · have hlook := HMq.out.set_.look x2 I2.out
              have hg1 : g1 - 1 < g1 ∧ (0 + 1) + (g1 - 1) = 2 := by have := HJ.out; omega
              have HG1 := Lib.hid hg1
              clear hg1 hj2
              by_cases hxs : x2 ∈ S
              · rw [decide_eq_true hxs] at hlook
                go_wp2_with fail
                go_roundg (g1 - 1)
                case measure => exact HG1.out.1
                case rel => exact ⟨0 + 1, gg, cc, S, HG1.out.2, rfl, rfl, HMq.out.below ((Below.refl _ _).alloc (Nat.le_refl _) _), HSi.out, fun _ => hxs, fun h => absurd h (by omega)⟩
              · rw [decide_eq_false hxs] at hlook
                have HXs := Lib.hid hxs
                have hMa := HMq.out.below ((Below.refl wr.heap.size wr).alloc (Nat.le_refl _) (.cells #[] 92))
                obtain ⟨w3, hrun3, hs3, hg3⟩ := hMa.put I2.out
                obtain ⟨a3, b3, r3, s3⟩ := hMa.afterPut hs3 hg3
                have HMa := Lib.hid hMa
                have HP3 := Lib.hid (show Arena w3 own p lim L ∧ Below W.heap.size W w3 ∧ SetM w3 (W.heap.size + 1) (S.length + 1) (S ++ [x2]) from ⟨a3, b3, s3⟩)
                have hbx := (Below.refl w3.heap.size w3).alloc (Nat.le_refl _) (.cells #[.int .i64 x2] 3)
                have HBx := Lib.hid hbx
                obtain ⟨hi, hz0, hz1, hz2⟩ := HI0.out
                have HBd : Hid (S.length + 1 ≤ maxLen ∧ (S.length + 1) * 8 ≤ 140737488355328) := Lib.hid (by unfold maxLen; omega)
                clear hxs hMa hs3 hg3 a3 b3 s3 hbx
                go_wp2_with (first
                  | (at_builtin; refine wpList_append_at rfl _ _ 39 rfl W.heap.size 3 i0 (.int .i64 0) 1 8 Try.underlying39 hi hz0 hz1 hz2 rfl (by decide) _ _ _ rfl (r3.alloc _) ⟨w3.heap.size, 0, none⟩ 1 1 [.int .i64 x2] rfl rfl ?_ ?_ ?_ ?_ ?_ ?_; exact one_at _ _ _; exact one_one _; exact HBd.out.1; exact HBd.out.2; exact Nat.le_trans HP3.out.2.1.size HBx.out.size; intro v' w4 ho hg hv; have H4 := Lib.hid (HMa.out.add HXs.out Q2.out (HP3.out.1.below HBx.out) (HP3.out.2.1.trans (HBx.out.mono HP3.out.2.1.size)) (r3.alloc _) (HP3.out.2.2.below HBx.out HP3.out.2.2.lt) ho hg); obtain ⟨g4, c4, hv4⟩ := row_form ho; subst hv4; clear ho hg hv))
                go_roundg (g1 - 1)
                case measure => exact HG1.out.1
                case rel => exact ⟨0 + 1, g4, c4, S ++ [x2], HG1.out.2, rfl, by rw [List.length_append]; rfl, by rw [List.length_append]; exact H4.out, by rw [List.getElem?_append_left (get_len' HSi.out)]; exact HSi.out, fun _ => by simp, fun h => absurd h (by omega)⟩
            · have hlook := HMq.out.set_.look x3 I3.out
              have hg1 : g1 - 1 < g1 ∧ (1 + 1) + (g1 - 1) = 2 := by have := HJ.out; omega
              have HG1 := Lib.hid hg1
              clear hg1 hj2
              by_cases hxs : x3 ∈ S
              · rw [decide_eq_true hxs] at hlook
                go_wp2_with fail
                go_roundg (g1 - 1)
                case measure => exact HG1.out.1
                case rel => exact ⟨1 + 1, gg, cc, S, HG1.out.2, rfl, rfl, HMq.out.below ((Below.refl _ _).alloc (Nat.le_refl _) _), HSi.out, fun _ => H23.out.1 (Nat.le_refl _), fun _ => hxs⟩
              · rw [decide_eq_false hxs] at hlook
                have HXs := Lib.hid hxs
                have hMa := HMq.out.below ((Below.refl wr.heap.size wr).alloc (Nat.le_refl _) (.cells #[] 92))
                obtain ⟨w3, hrun3, hs3, hg3⟩ := hMa.put I3.out
                obtain ⟨a3, b3, r3, s3⟩ := hMa.afterPut hs3 hg3
                have HMa := Lib.hid hMa
                have HP3 := Lib.hid (show Arena w3 own p lim L ∧ Below W.heap.size W w3 ∧ SetM w3 (W.heap.size + 1) (S.length + 1) (S ++ [x3]) from ⟨a3, b3, s3⟩)
                have hbx := (Below.refl w3.heap.size w3).alloc (Nat.le_refl _) (.cells #[.int .i64 x3] 3)
                have HBx := Lib.hid hbx
                obtain ⟨hi, hz0, hz1, hz2⟩ := HI0.out
                have HBd : Hid (S.length + 1 ≤ maxLen ∧ (S.length + 1) * 8 ≤ 140737488355328) := Lib.hid (by unfold maxLen; omega)
                clear hxs hMa hs3 hg3 a3 b3 s3 hbx
                go_wp2_with (first
                  | (at_builtin; refine wpList_append_at rfl _ _ 39 rfl W.heap.size 3 i0 (.int .i64 0) 1 8 Try.underlying39 hi hz0 hz1 hz2 rfl (by decide) _ _ _ rfl (r3.alloc _) ⟨w3.heap.size, 0, none⟩ 1 1 [.int .i64 x3] rfl rfl ?_ ?_ ?_ ?_ ?_ ?_; exact one_at _ _ _; exact one_one _; exact HBd.out.1; exact HBd.out.2; exact Nat.le_trans HP3.out.2.1.size HBx.out.size; intro v' w4 ho hg hv; have H4 := Lib.hid (HMa.out.add HXs.out Q3.out (HP3.out.1.below HBx.out) (HP3.out.2.1.trans (HBx.out.mono HP3.out.2.1.size)) (r3.alloc _) (HP3.out.2.2.below HBx.out HP3.out.2.2.lt) ho hg); obtain ⟨g4, c4, hv4⟩ := row_form ho; subst hv4; clear ho hg hv))
                go_roundg (g1 - 1)
                case measure => exact HG1.out.1
                case rel => exact ⟨1 + 1, g4, c4, S ++ [x3], HG1.out.2, rfl, by rw [List.length_append]; rfl, by rw [List.length_append]; exact H4.out, by rw [List.getElem?_append_left (get_len' HSi.out)]; exact HSi.out, fun _ => List.mem_append_left _ (H23.out.1 (Nat.le_refl _)), fun _ => by simp⟩
      · have HG := Lib.hid (arena_getN hM.arena hn)
        have HN := Lib.hid hn
        clear hM hr hrc hrh hn
        go_wp2_with (first
          | (go_at_call 56; ((with_reducible refine HG.out.mono ?_); rintro e w1 ⟨rfl, hb1⟩); have H1 := Lib.hid hb1; clear hb1))
        have hi := HIg.out
        go_roundg (g0 - 1)
        case measure => omega
        case rel => exact ⟨i + 1, g, c, R, by omega, by simp, rfl, (HMt.out.below (H1.out.alloc H1.out.size _)).next HRi.out fun k x e hx => absurd (show 0 ≤ r ∧ r < (L.length : Int) by have := get_len hx; omega) HN.out⟩
    · have hle := hM.le
      obtain rfl : i = R.length := by omega
      clear hM
      go_wp2_with fail
      go_ret
      exact ⟨g, c, R, rfl, HMt.out.row, HMt.out.low, HMt.out.nodup, HMt.out.all, HMt.out.few⟩
end
end Go.Proofs.Ytcolinjgfcjimaa
