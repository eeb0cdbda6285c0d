/- The document's Do: the walk. -/
import Derived.Test.YtdgjbbcalffbcaaBRefDo
import Derived.Deep.LoopGhost
namespace Go.Proofs.Ytdgjbbcalffbcaa
open Go.RowKit
attribute [local go_sem ↓] Go.wp_at_zero Go.wp_at_succ

section
variable {W : World} {At : Option Addr} {n c : Nat} {tv : Nat → Value} {F : Nat → Nat → Bool}
def RetNo (W : World) (e : Ending) (w' : World) : Prop := e = .returned (.tuple #[.slice none 0 0, .bool false]) ∧ Below W.heap.size W w'
def RetYes (G : Nat → Bool) (W : World) (e : Ending) (w' : World) : Prop := ∃ v, e = .returned (.tuple #[v, .bool true]) ∧ Tab w' v G ∧ (∀ g, v.ownBlock = some g → W.heap.size ≤ g) ∧ Below W.heap.size W w'
/-- A kind that is none. -/
theorem do_kind (k v a b d : Int) (yes : Bool) (hk : ¬ (0 ≤ k ∧ k ≤ 8)) : Calls Try.prog 34 #[.slice At n c, .agg #[.int .i64 k, .int .i64 v, .int .i64 a, .int .i64 b, .int .i64 d, .bool yes]] W (RetNo W) := by
  have s1 := size_up (rfl : W.heap.size = W.heap.size) (.cells #[.int .i64 k, .int .i64 v, .int .i64 a, .int .i64 b, .int .i64 d, .bool yes] 31)
  have HB := Lib.hid (((Below.refl W.heap.size W).alloc (Nat.le_refl _) (.cells #[.int .i64 k, .int .i64 v, .int .i64 a, .int .i64 b, .int .i64 d, .bool yes] 31)).alloc (by rw [s1]; omega) (.cells #[.int .i64 0, .int .i64 1, .int .i64 2, .int .i64 2, .int .i64 2, .int .i64 3, .int .i64 1, .int .i64 1, .int .i64 2] 3))
  clear s1
  rcases (show decide (k < 0) = true ∨ (decide (k < 0) = false ∧ decide (8 < k) = true) by simp; omega) with h | ⟨h, h'⟩
  all_goals
    go_enter Try.func34, Try.ntmps34
    go_wp2_with fail
    go_ret2
    exact ⟨rfl, HB.out⟩
theorem tab_of {w : World} (hT : Tabs w At n tv F) {x : Int} (h : InR n x) : Tab w (tv x.toNat) (F x.toNat) := by
  unfold InR at h
  obtain ⟨b, off, -, -, -, ht⟩ := hT (by omega)
  exact ht _ (by omega)
theorem one_all {w : World} (o : Opn) (hk : 0 ≤ o.kind ∧ o.kind ≤ 8) (hT : Tabs w At n tv F) (hin : ∀ i : Nat, (i : Int) < needP o.kind → InR n (argP o i)) (hv : o.kind = 0 ∨ 5 < o.kind → 0 ≤ o.v ∧ o.v < 12) {i : Nat} (hn : i < 4096) :
    Calls Try.prog 54 #[opV o, inP o tv (needP o.kind).toNat 0, inP o tv (needP o.kind).toNat 1, inP o tv (needP o.kind).toNat 2, .int .i64 i] w (RetO (opF o (F o.a.toNat) (F o.b.toNat) (F o.c.toNat) i) w) := by
  obtain ⟨k, v, a, b, c, yes⟩ := o
  dsimp only at hk hin hv ⊢
  rcases (show k = 0 ∨ k = 1 ∨ k = 2 ∨ k = 3 ∨ k = 4 ∨ k = 5 ∨ k = 6 ∨ k = 7 ∨ k = 8 by omega) with hk | hk | hk | hk | hk | hk | hk | hk | hk
  · subst hk
    obtain ⟨u, rfl⟩ : ∃ u : Nat, v = (u : Int) := ⟨v.toNat, by have := hv (by omega); omega⟩
    have hu : u < 12 := by have := hv (by omega); omega
    exact one_0 (W := w) (a := a) (b := b) (c := c) (yes := yes) (hv := hu) hn
  · subst hk
    have ha := tab_of hT (hin 0 (by decide))
    exact one_1 (W := w) (v := v) (a := a) (b := b) (c := c) (yes := yes) hn ha
  · subst hk
    have ha := tab_of hT (hin 0 (by decide))
    have hb := tab_of hT (hin 1 (by decide))
    exact one_2 (W := w) (v := v) (a := a) (b := b) (c := c) (yes := yes) hn ha hb
  · subst hk
    have ha := tab_of hT (hin 0 (by decide))
    have hb := tab_of hT (hin 1 (by decide))
    exact one_3 (W := w) (v := v) (a := a) (b := b) (c := c) (yes := yes) hn ha hb
  · subst hk
    have ha := tab_of hT (hin 0 (by decide))
    have hb := tab_of hT (hin 1 (by decide))
    exact one_4 (W := w) (v := v) (a := a) (b := b) (c := c) (yes := yes) hn ha hb
  · subst hk
    have ha := tab_of hT (hin 0 (by decide))
    have hb := tab_of hT (hin 1 (by decide))
    have hc := tab_of hT (hin 2 (by decide))
    exact one_5 (W := w) (v := v) (a := a) (b := b) (c := c) (yes := yes) hn ha hb hc
  · subst hk
    have ha := tab_of hT (hin 0 (by decide))
    obtain ⟨u, rfl⟩ : ∃ u : Nat, v = (u : Int) := ⟨v.toNat, by have := hv (by omega); omega⟩
    have hu : u < 12 := by have := hv (by omega); omega
    exact one_6 (W := w) (a := a) (b := b) (c := c) (yes := yes) (hv := hu) hn ha
  · subst hk
    have ha := tab_of hT (hin 0 (by decide))
    obtain ⟨u, rfl⟩ : ∃ u : Nat, v = (u : Int) := ⟨v.toNat, by have := hv (by omega); omega⟩
    have hu : u < 12 := by have := hv (by omega); omega
    exact one_7 (W := w) (a := a) (b := b) (c := c) (yes := yes) (hv := hu) hn ha
  · subst hk
    have ha := tab_of hT (hin 0 (by decide))
    have hb := tab_of hT (hin 1 (by decide))
    obtain ⟨u, rfl⟩ : ∃ u : Nat, v = (u : Int) := ⟨v.toNat, by have := hv (by omega); omega⟩
    have hu : u < 12 := by have := hv (by omega); omega
    exact one_8 (W := w) (a := a) (b := b) (c := c) (yes := yes) (hv := hu) hn ha hb

def RetDo (n : Nat) (o : Opn) (G : Nat → Bool) (W : World) (e : Ending) (w' : World) : Prop := (okP n o ∧ RetYes G W e w') ∨ (¬ okP n o ∧ RetNo W e w')
theorem do_bad {o : Opn} {G : Nat → Bool} {w' : World} {i : Nat} (hi : (i : Int) < needP o.kind) (h : ¬ InR n (argP o i)) (hb : Below W.heap.size W w') : RetDo n o G W (.returned (.tuple #[.slice none 0 0, .bool false])) w' :=
  .inr ⟨fun hok => h (hok.2.1 i hi), rfl, hb⟩
theorem row_snoc (G : Nat → Bool) (i : Nat) : (List.range (i + 1)).map (fun j => Value.bool (G j)) = (List.range i).map (fun j => Value.bool (G j)) ++ [.bool (G i)] := by rw [List.range_succ, List.map_append]; rfl
theorem tab_row {w : World} {base : Nat} {v : Value} {G : Nat → Bool} (h : w.ownsRow base 4 1 v 4096 ((List.range 4096).map fun j => Value.bool (G j))) : Tab w v G ∧ ∀ g, v.ownBlock = some g → base ≤ g := by
  refine ⟨?_, fun g hg => (h.lt g hg).1⟩
  rcases h.2 with ⟨_, h0⟩ | ⟨g, cap, cur, rfl, _, hh, _⟩
  · omega
  · refine ⟨g, cap, rfl, (Array.getElem?_eq_some_iff.1 hh).1, fun m hm => ?_⟩
    rw [h.cellAt m (by omega), List.getElem?_map, List.getElem?_range hm]
    rfl
theorem bool_bounds {i : Nat} (h : i < 4096) : i + 1 ≤ maxLen ∧ (i + 1) * 1 ≤ 140737488355328 := by unfold maxLen; omega
set_option maxRecDepth 100000 in
set_option maxHeartbeats 6400000 in
theorem do_any (o : Opn) (hk : 0 ≤ o.kind ∧ o.kind ≤ 8) (hT : Tabs W At n tv F) (hn : n ≤ 100) : Calls Try.prog 34 #[.slice At n c, opV o] W (RetDo n o (opF o (F o.a.toNat) (F o.b.toNat) (F o.c.toNat)) W) := by
  obtain ⟨k, hkk⟩ : ∃ k : Nat, o.kind = (k : Int) := ⟨o.kind.toNat, by omega⟩
  have hk8 : k ≤ 8 := by omega
  obtain ⟨nd, hnd⟩ : ∃ nd : Nat, needP (k : Int) = (nd : Int) := ⟨(needP k).toNat, by have := need_le (k : Int); omega⟩
  have hnd3 : nd ≤ 3 := by have := need_le (k : Int); omega
  have hndt : (needP o.kind).toNat = nd := by rw [hkk, hnd]; rfl
  have HOne : Hid (∀ w i, DoR W o tv nd w → i < 4096 → (∀ j : Nat, j < nd → InR n (argP o j)) → (o.kind = 0 ∨ 5 < o.kind → 0 ≤ o.v ∧ o.v < 12) → Calls Try.prog 54 #[opV o, inP o tv nd 0, inP o tv nd 1, inP o tv nd 2, .int .i64 (i : Nat)] w (RetO (opF o (F o.a.toNat) (F o.b.toNat) (F o.c.toNat) i) w)) :=
    Lib.hid fun w i hw hi hin hv => by
      have := one_all (i := i) o hk (hT.below hw.low) (fun j hj => hin j (by rw [hkk, hnd] at hj; omega)) hv hi
      rw [hndt] at this
      exact this
  have HN1 := Lib.hid (fun (w : World) (hw : DoR W o tv nd w) => hw)
  have HBad : Hid (∀ (w' : World) (i : Nat), i < nd → ¬ InR n (argP o i) → Below W.heap.size W w' → RetDo n o (opF o (F o.a.toNat) (F o.b.toNat) (F o.c.toNat)) W (.returned (.tuple #[.slice none 0 0, .bool false])) w') :=
    Lib.hid fun w' i hi h hb => do_bad (by rw [hkk, hnd]; omega) h hb
  have HOk : Hid ((∀ j : Nat, j < nd → InR n (argP o j)) → (o.kind = 0 ∨ 5 < o.kind → 0 ≤ o.v ∧ o.v < 12) → okP n o) := Lib.hid fun h1 h2 => ⟨hk, fun i hi => h1 i (by rw [hkk, hnd] at hi; omega), h2⟩
  have HKK := Lib.hid hkk
  have HS := Lib.hid (do_start W o tv)
  unfold opL argL needL at HS
  unfold opV at HOne
  rw [hkk] at HS HOne
  unfold opV
  rw [hkk]
  generalize opF o (F o.a.toNat) (F o.b.toNat) (F o.c.toNat) = G at *
  have d0 : decide ((k : Int) < 0) = false := decide_eq_false (by omega)
  have d1 : decide (8 < (k : Int)) = false := decide_eq_false (by omega)
  have HT := Lib.hid hT
  have HND := Lib.hid hnd
  have HK8 := Lib.hid hk8
  have hinfo : (Try.prog.info? 4).map (fun i => (i.zero, i.size, i.bytes)) = some (some (.bool false), 1, 1) := by kernel_rfl
  obtain ⟨i0, hi, hz0, hz1, hz2⟩ := info_parts hinfo
  have HI0 := Lib.hid (And.intro hi (And.intro hz0 (And.intro hz1 hz2)))
  clear hT hk hkk hnd hndt hinfo hi hz0 hz1 hz2
  go_enter Try.func34, Try.ntmps34
  go_wp2_with fail
  go_loopg [9] nd (fun gk t9 wr => ∃ i : Nat, i + gk = nd ∧ t9 = .int .i64 (i : Int) ∧ DoR W o tv i wr ∧ ∀ j : Nat, j < i → InR n (argP o j))
  case atStart => exact ⟨0, by omega, rfl, HS.out, fun j hj => absurd hj (by omega)⟩
  case round =>
    rename Nat => g0
    obtain ⟨i, hgi, rfl, hD, hin⟩ := hrel
    have HD := Lib.hid hD
    have HIn := Lib.hid hin
    have ck : wr.cell? ⟨W.heap.size, 0, none⟩ = some (.int .i64 (k : Int)) := by rw [← HKK.out]; exact hD.b0.cell 0
    have cv : wr.cell? ⟨W.heap.size, 1, none⟩ = some (.int .i64 o.v) := hD.b0.cell 1
    have cn : wr.cell? ⟨W.heap.size + 1, k, none⟩ = some (.int .i64 (nd : Int)) := by rw [← HND.out]; exact (hD.b1.cell k).trans (needL_at HK8.out)
    clear hD hin
    by_cases hlt : i < nd
    · obtain ⟨x, hx⟩ : ∃ x, argP o i = x := ⟨_, rfl⟩
      have ca : wr.cell? ⟨W.heap.size + 1 + 1, i, none⟩ = some (.int .i64 x) := by rw [← hx]; exact (HD.out.b2.cell i).trans (argL_at o (by omega))
      have hi3 : i < 3 := by omega
      by_cases hr : InR n x
      · have hr' := hr
        unfold InR at hr'
        obtain ⟨j, rfl⟩ : ∃ j : Nat, x = (j : Int) := ⟨x.toNat, by omega⟩
        obtain ⟨b, off, hA, hlt2, hc, ht⟩ := HT.out.below HD.out.low (by omega)
        have hcj := hc j (by omega)
        obtain ⟨gj, cj, etv, -, -⟩ := ht j (by omega)
        have f3 := HD.out.b3.frozen i
        obtain ⟨old, c3⟩ : ∃ old, wr.cell? ⟨W.heap.size + 1 + 1 + 1, i, none⟩ = some old := by
          have h3 := HD.out.b3.cell i
          have : i = 0 ∨ i = 1 ∨ i = 2 := by omega
          rcases this with rfl | rfl | rfl <;> exact ⟨_, h3⟩
        have HP := Lib.hid (show DoR W o tv (i + 1) (wr.setCell ⟨W.heap.size + 1 + 1 + 1, i, none⟩ (tv j)) by have := HD.out.put hi3; rw [hx] at this; exact this)
        have HR := Lib.hid (show InR n (argP o i) by rw [hx]; exact hr)
        have e0 : decide ((j : Int) < 0) = false := decide_eq_false (by omega)
        have e1 : decide ((n : Int) ≤ (j : Int)) = false := decide_eq_false (by omega)
        have hjn : j < n := by omega
        rw [etv] at hcj HP
        subst hA
        clear hx hr hr' hc ht etv
        go_wp2_with fail
        go_roundg (g0 - 1)
        case measure => omega
        case rel => exact ⟨i + 1, by omega, by go_num, HP.out, fun j' hj' => by
          rcases (show j' < i ∨ j' = i by omega) with h | rfl
          · exact HIn.out j' h
          · exact HR.out⟩
      · have HE := Lib.hid (HBad.out wr i hlt (by rw [hx]; exact hr) HD.out.low)
        unfold InR at hr
        rcases (show decide (x < 0) = true ∨ (decide (x < 0) = false ∧ decide ((n : Int) ≤ x) = true) by simp; omega) with e0 | ⟨e0, e1⟩
        all_goals
          clear hx hr
          go_wp2_with fail
          go_ret2
          exact HE.out
    · obtain rfl : i = nd := by omega
      by_cases hv : o.kind = 0 ∨ 5 < o.kind → 0 ≤ o.v ∧ o.v < 12
      · have HOK := Lib.hid (HOk.out HIn.out hv)
        have hv2 := hv
        rw [HKK.out] at hv2
        have HF1 : Hid (∀ w j, DoR W o tv i w → j < 4096 → Calls Try.prog 54 #[.agg #[.int .i64 (k : Int), .int .i64 o.v, .int .i64 o.a, .int .i64 o.b, .int .i64 o.c, .bool o.yes], inP o tv i 0, inP o tv i 1, inP o tv i 2, .int .i64 (j : Nat)] w (RetO (G j) w)) := Lib.hid fun w j hw hj => HOne.out w j hw hj HIn.out hv2
        have hkk := HKK.out
        rcases (show (((k : Int) == 0) = false ∧ decide (5 < (k : Int)) = false) ∨ (((k : Int) == 0) = true ∧ decide (o.v < 0) = false ∧ decide (11 < o.v) = false) ∨ (((k : Int) == 0) = false ∧ decide (5 < (k : Int)) = true ∧ decide (o.v < 0) = false ∧ decide (11 < o.v) = false) by simp; omega) with ⟨f0, f1⟩ | ⟨f0, f1, f2⟩ | ⟨f0, f1, f2, f3⟩
        all_goals
          clear hv hv2 hkk
          go_wp2_with fail
          go_loopg [10, 11] 4096 (fun gk t10 t11 wq => ∃ j : Nat, j + gk = 4096 ∧ t11 = .int .i64 (j : Int) ∧ DoR W o tv i wq ∧ wq.ownsRow (W.heap.size + 1 + 1 + 1 + 1) 4 1 t10 j ((List.range j).map fun m => Value.bool (G m)))
          case atStart => exact ⟨0, by omega, rfl, HD.out, World.ownsRow_nil _ _ _ _⟩
          case round =>
            rename Nat => g1
            obtain ⟨j, hj, rfl, hDj, hown⟩ := hrel
            have HDj := Lib.hid hDj
            have HJ := Lib.hid hj
            by_cases hj4 : j < 4096
            · have c0 : wr.cell? ⟨W.heap.size, 0, none⟩ = some (.int .i64 (k : Int)) := by rw [← HKK.out]; exact hDj.b0.cell 0
              have c1 : wr.cell? ⟨W.heap.size, 1, none⟩ = some (.int .i64 o.v) := hDj.b0.cell 1
              have c2 : wr.cell? ⟨W.heap.size, 2, none⟩ = some (.int .i64 o.a) := hDj.b0.cell 2
              have c3 : wr.cell? ⟨W.heap.size, 3, none⟩ = some (.int .i64 o.b) := hDj.b0.cell 3
              have c4 : wr.cell? ⟨W.heap.size, 4, none⟩ = some (.int .i64 o.c) := hDj.b0.cell 4
              have c5 : wr.cell? ⟨W.heap.size, 5, none⟩ = some (.bool o.yes) := hDj.b0.cell 5
              have i0' : wr.cell? ⟨W.heap.size + 1 + 1 + 1, 0, none⟩ = some (inP o tv i 0) := hDj.b3.cell 0
              have i1' : wr.cell? ⟨W.heap.size + 1 + 1 + 1, 1, none⟩ = some (inP o tv i 1) := hDj.b3.cell 1
              have i2' : wr.cell? ⟨W.heap.size + 1 + 1 + 1, 2, none⟩ = some (inP o tv i 2) := hDj.b3.cell 2
              have HCall := Lib.hid (HF1.out wr j hDj hj4)
              have HOwn := Lib.hid hown
              have HBd := Lib.hid (bool_bounds hj4)
              have HL4 : Hid (W.heap.size + 1 + 1 + 1 + 1 ≤ wr.heap.size) := Lib.hid (by have := hDj.b3.lt; omega)
              obtain ⟨hi, hz0, hz1, hz2⟩ := HI0.out
              generalize inP o tv i 0 = n0 at i0' HCall
              generalize inP o tv i 1 = n1 at i1' HCall
              generalize inP o tv i 2 = n2 at i2' HCall
              clear hDj hown hj
              go_wp2_with (first
                | (go_at_call 54; ((with_reducible refine HCall.out.mono ?_); rintro e w2 ⟨rfl, hb2⟩); have H2 := Lib.hid (HDj.out.below hb2); have hown := own_below HOwn.out hb2; have HS2 := Lib.hid hb2.size; clear hb2)
                | (at_builtin; refine wpList_append_at rfl _ _ 34 rfl (W.heap.size + 1 + 1 + 1 + 1) 4 i0 (.bool false) 1 1 Try.underlying34 hi hz0 hz1 hz2 rfl (by decide) _ _ _ rfl (hown.alloc _) ⟨w2.heap.size, 0, none⟩ 1 1 [.bool (G j)] rfl rfl ?_ ?_ ?_ ?_ ?_ ?_; exact one_at _ _ _; exact one_bool _; exact HBd.out.1; exact HBd.out.2; exact Nat.le_trans HL4.out (Nat.le_trans HS2.out ((Below.refl w2.heap.size w2).alloc (Nat.le_refl _) _).size); intro v' w3 ho hg hv'; have H3 := Lib.hid (show DoR W o tv i w3 from (H2.out.below ((Below.refl _ _).alloc (Nat.le_refl _) _)).grown hg (fun g e => (hown.lt g e).1)); have HO3 := Lib.hid ho; clear ho hg hv' hown))
              have hj := HJ.out
              go_roundg (g1 - 1)
              case measure => omega
              case rel => exact ⟨j + 1, by omega, by go_num, H3.out, by rw [row_snoc]; exact HO3.out⟩
            · obtain rfl : j = 4096 := by omega
              have HT4 := Lib.hid (tab_row hown)
              clear hDj hown hj
              go_wp2_with fail
              go_ret2
              exact .inl ⟨HOK.out, _, rfl, HT4.out.1, fun g hg => by have := HT4.out.2 g hg; omega, HDj.out.low⟩
      · have HE : Hid (RetDo n o G W (.returned (.tuple #[.slice none 0 0, .bool false])) wr) := Lib.hid (.inr ⟨fun hok => hv hok.2.2, rfl, HD.out.low⟩)
        have hkk := HKK.out
        rcases (show (((k : Int) == 0) = true ∧ decide (o.v < 0) = true) ∨ (((k : Int) == 0) = true ∧ decide (o.v < 0) = false ∧ decide (11 < o.v) = true) ∨ (((k : Int) == 0) = false ∧ decide (5 < (k : Int)) = true ∧ decide (o.v < 0) = true) ∨ (((k : Int) == 0) = false ∧ decide (5 < (k : Int)) = true ∧ decide (o.v < 0) = false ∧ decide (11 < o.v) = true) by simp; omega) with ⟨f0, f1⟩ | ⟨f0, f1, f2⟩ | ⟨f0, f1, f2⟩ | ⟨f0, f1, f2, f3⟩
        all_goals
          clear hv hkk
          go_wp2_with fail
          go_ret2
          exact HE.out
theorem do_all (o : Opn) (hT : Tabs W At n tv F) (hn : n ≤ 100) : Calls Try.prog 34 #[.slice At n c, opV o] W (RetDo n o (opF o (F o.a.toNat) (F o.b.toNat) (F o.c.toNat)) W) := by
  by_cases hk : 0 ≤ o.kind ∧ o.kind ≤ 8
  · exact do_any o hk hT hn
  · exact (do_kind o.kind o.v o.a o.b o.c o.yes hk).mono fun _ _ h => .inr ⟨fun hok => hk hok.1, h⟩
end
end Go.Proofs.Ytdgjbbcalffbcaa
