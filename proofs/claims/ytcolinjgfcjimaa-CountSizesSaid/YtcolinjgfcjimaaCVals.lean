/- The contract of Values: what a ref tells, rising, each once. -/
import Derived.Test.YtcolinjgfcjimaaCLists
namespace Go.Proofs.Ytcolinjgfcjimaa
open Go.RowKit
attribute [local go_sem ↓] Go.wp_at_zero Go.wp_at_succ

/-- A row that was sorted. -/
theorem sort_row {w : World} {base g c k : Nat} {zs s : List Int} {os : Array Obj} (h : w.ownsRow base 3 1 (.slice (some ⟨g, 0, none⟩) zs.length c) zs.length (zs.map (Value.int .i64))) (hs : s.length = zs.length) :
    (Go.Sort.grow (Go.Sort.putRow (Value.int .i64) (Go.Sort.ahead w k) g 0 s.toArray) os).ownsRow base 3 1 (.slice (some ⟨g, 0, none⟩) zs.length c) zs.length (s.map (Value.int .i64)) ∧ ∀ B, B ≤ base → B ≤ w.heap.size → Below B w (Go.Sort.grow (Go.Sort.putRow (Value.int .i64) (Go.Sort.ahead w k) g 0 s.toArray) os) := by
  obtain ⟨hl, h2⟩ := h
  rcases h2 with ⟨h', h0⟩ | ⟨g', cap, cur, h', hb, hg, hc, hm, hcs, ht⟩
  · cases h'
  · injection h' with h1 _ h3
    injection h1 with h1
    injection h1 with h1
    subst h1
    subst h3
    have hlt := (Array.getElem?_eq_some_iff.1 hg).1
    refine ⟨⟨by simp [hs], .inr ⟨g, c, Go.Sort.putCells (Value.int .i64) 0 s.toArray cur, rfl, hb, ?_, hc, hm, ?_, ?_⟩⟩, fun B h1 h2 => ⟨rfl, rfl, rfl, ?_, fun i hi => ?_⟩⟩
    · unfold Go.Sort.grow Go.Sort.putRow Go.Sort.mapBlock Go.Sort.ahead
      rw [Array.getElem?_append_left (by simpa using hlt)]
      rw [Array.getElem?_modify, if_pos rfl, hg]
      rfl
    · unfold Go.Sort.putCells
      simpa using hcs
    · apply List.ext_getElem?
      intro j
      have hcl : cur.toList.length = c := by simpa using hcs
      rw [List.getElem?_take]
      by_cases hj : j < zs.length
      · rw [if_pos (by omega)]
        unfold Go.Sort.putCells
        rw [Array.getElem?_toList, Array.getElem?_mapIdx]
        have hjc : j < cur.size := by omega
        rw [Array.getElem?_eq_getElem hjc]
        simp only [Option.map_some, Nat.zero_add, Nat.sub_zero]
        rw [if_pos ⟨Nat.zero_le _, by simpa [hs] using hj⟩, List.getElem?_map, List.getElem?_eq_getElem (show j < s.length by omega)]
        simp [show j < s.length by omega]
      · rw [if_neg (by omega), List.getElem?_eq_none (by simp; omega)]
    · unfold Go.Sort.grow Go.Sort.putRow Go.Sort.mapBlock Go.Sort.ahead
      simp
    · unfold Go.Sort.grow Go.Sort.putRow Go.Sort.mapBlock Go.Sort.ahead
      rw [Array.getElem?_append_left (by simp; omega)]
      rw [Array.getElem?_modify, if_neg (by omega)]
def valsP (R : List Int) : List Int := (R.filter fun r => decide (r < 0)).map valueP
theorem vals_step {R : List Int} {i : Nat} {r : Int} (hr : R[i]? = some r) : valsP (R.take (i + 1)) = valsP (R.take i) ++ if r < 0 then [valueP r] else [] := by
  unfold valsP
  rw [List.take_add_one, hr, List.filter_append, List.map_append]
  by_cases h : r < 0
  · simp [h]
  · simp [h]
theorem vals_len (R : List Int) : (valsP R).length ≤ R.length := by
  unfold valsP
  rw [List.length_map]
  exact List.length_filter_le _ _
def sortP (V : List Int) : List Int := V.mergeSort fun x y => decide (x ≤ y)
def RetVals (L : List Nd) (f : Int) (w : World) (e : Ending) (w' : World) : Prop := ∃ (R : List Int) (v : Value), e = .returned v ∧ w'.ownsRow w.heap.size 3 1 v (sortP (valsP R)).length ((sortP (valsP R)).map (Value.int .i64)) ∧ R.Nodup ∧ (∀ r, r ∈ R ↔ Reach L f r) ∧ R.length ≤ 8001 ∧ Below w.heap.size w w'
theorem sort_nil : sortP [] = [] := by unfold sortP; simp
theorem sort_len (V : List Int) : (sortP V).length = V.length := by unfold sortP; exact List.length_mergeSort _
theorem row_up {w : World} {a b : Nat} {e : TypeId} {size n : Nat} {v : Value} {xs : List Value} (h : w.ownsRow b e size v n xs) (hab : a ≤ b) : w.ownsRow a e size v n xs := by
  refine ⟨h.1, ?_⟩
  rcases h.2 with h | ⟨g, cap, cur, h1, h2, h3⟩
  · exact .inl h
  · exact .inr ⟨g, cap, cur, h1, Nat.le_trans hab h2, h3⟩
theorem holds_row {w : World} {base g c : Nat} {zs : List Int} (h : w.ownsRow base 3 1 (.slice (some ⟨g, 0, none⟩) zs.length c) zs.length (zs.map (Value.int .i64))) : Go.Sort.Holds (Value.int .i64) w g 0 zs.toArray := fun j hj => by
  have hj' : j < zs.length := by simpa using hj
  refine ⟨?_, ?_⟩
  · rw [Nat.zero_add, h.cellAt j (by omega), List.getElem?_map, List.getElem?_eq_getElem hj']
    simp [hj']
  · obtain ⟨_, h2⟩ := h
    rcases h2 with ⟨h', h0⟩ | ⟨g', cap, cur, h', hb, hg, _⟩
    · cases h'
    · injection h' with h1 _ h3
      injection h1 with h1
      injection h1 with h1
      subst h1
      simp [World.frozen?, hg]
section
variable {W : World} {own : Nat → Prop} {p lim : Nat} {L : List Nd} {f : Int}
set_option maxRecDepth 100000 in
theorem values_none (h : Arena W own p lim L) (hf : hasP L.length f = false) : Calls Try.prog 16 #[.pointer (some ⟨p, 0, none⟩), .int .i64 f] W (RetW (.slice none 0 0) W) := by
  have HM := Lib.hid (met_none h hf)
  clear h hf
  go_enter Try.func16, Try.ntmps16
  go_wp2_with (go_at_call 40; ((with_reducible refine HM.out.mono ?_); rintro e w1 ⟨rfl, rfl⟩))
  go_loopg [5, 12] 0 (fun gk t5 t12 wr => t12 = .int .i64 0 ∧ t5 = .slice none 0 0 ∧ wr = W)
  case atStart => exact ⟨rfl, rfl, rfl⟩
  case round =>
    obtain ⟨rfl, rfl, rfl⟩ := hrel
    go_wp2_with (go_at_call 42; ((with_reducible refine (Try.slices_Sort_int_none _ _ _).mono ?_); rintro e w2 ⟨rfl, rfl⟩))
    go_ret
    exact ⟨rfl, rfl⟩
set_option maxRecDepth 100000 in
set_option maxHeartbeats 1600000 in
theorem values_any (h : Arena W own p lim L) (hf : hasP L.length f = true) : Calls Try.prog 16 #[.pointer (some ⟨p, 0, none⟩), .int .i64 f] W (RetVals L f W) := by
  have HM := Lib.hid (met_any h hf)
  have hinfo : (Try.prog.info? 3).map (fun i => (i.zero, i.size, i.bytes)) = some (some (.int .i64 0), 1, 8) := by kernel_rfl
  obtain ⟨i0, hi, hz0, hz1, hz2⟩ := info_parts hinfo
  have HI0 := Lib.hid (And.intro hi (And.intro hz0 (And.intro hz1 hz2)))
  clear h hf hinfo hi hz0 hz1 hz2
  go_enter Try.func16, Try.ntmps16
  go_wp2_with (go_at_call 40; ((with_reducible refine HM.out.mono ?_); rintro e w1 ⟨g, c, R, rfl, hrow, hb1, hnd, hrr, hlen⟩))
  have HRow := Lib.hid hrow
  have HB1 := Lib.hid hb1
  have HRR := Lib.hid (And.intro hnd hrr)
  clear hrow hb1 hrr hnd
  go_loopg [5, 12] R.length (fun gk t5 t12 wr => ∃ i : Nat, i + gk = R.length ∧ t12 = .int .i64 (i : Int) ∧ wr.ownsRow w1.heap.size 3 1 t5 (valsP (R.take i)).length ((valsP (R.take i)).map (Value.int .i64)) ∧ Below w1.heap.size w1 wr)
  case atStart => exact ⟨0, by omega, rfl, World.ownsRow_nil _ _ _ _, Below.refl _ _⟩
  case round =>
    rename Nat => g0
    obtain ⟨i, hi, rfl, hV, hbw⟩ := hrel
    have HI := Lib.hid hi
    have HB2 := Lib.hid hbw
    clear hi hbw
    by_cases hir : i < R.length
    · obtain ⟨r, hr⟩ : ∃ r, R[i]? = some r := ⟨_, List.getElem?_eq_getElem hir⟩
      have hce := row_cell HRow.out HB2.out hr rfl
      have HS := Lib.hid (vals_step hr)
      have hle : (valsP (R.take i)).length ≤ i := Nat.le_trans (vals_len _) (by rw [List.length_take]; omega)
      clear hr
      obtain ⟨V, hq⟩ : ∃ V, valsP (R.take i) = V := ⟨_, rfl⟩
      rw [hq] at HS hle hV
      clear hq
      have HBd : Hid (V.length + 1 ≤ maxLen ∧ (V.length + 1) * 8 ≤ 140737488355328) := Lib.hid (by unfold maxLen; omega)
      clear hle
      by_cases hr0 : r < 0
      · have hd : decide (r < 0) = true := decide_eq_true hr0
        have HR0 := Lib.hid hr0
        obtain ⟨y, hy⟩ : ∃ y, valueP r = y := ⟨_, rfl⟩
        rw [if_pos hr0, hy] at HS
        have HV := Lib.hid (value_any r wr)
        rw [hy] at HV
        clear hy hr0
        obtain ⟨hi, hz0, hz1, hz2⟩ := HI0.out
        have HBx := Lib.hid ((Below.refl wr.heap.size wr).alloc (Nat.le_refl _) (.cells #[.int .i64 y] 3))
        go_wp2_with (first
          | (go_at_call 41; ((with_reducible refine (isTerm_any _ _).mono ?_); rintro e w2 ⟨rfl, rfl⟩))
          | (go_at_call 25; ((with_reducible refine HV.out.mono ?_); rintro e w3 ⟨rfl, rfl⟩))
          | (at_builtin; refine wpList_append_at rfl _ _ 39 rfl w1.heap.size 3 i0 (.int .i64 0) 1 8 Try.underlying39 hi hz0 hz1 hz2 rfl (by decide) _ _ _ rfl (hV.alloc _) ⟨wr.heap.size, 0, none⟩ 1 1 [.int .i64 y] rfl rfl ?_ ?_ ?_ ?_ ?_ ?_; exact one_at _ _ _; exact one_one _; exact HBd.out.1; exact HBd.out.2; exact Nat.le_trans HB2.out.size HBx.out.size; intro v' w4 ho hg hv; have H4 := Lib.hid (show w4.ownsRow w1.heap.size 3 1 v' (V ++ [y]).length ((V ++ [y]).map (Value.int .i64)) ∧ Below w1.heap.size w1 w4 from ⟨by rw [List.length_append, List.map_append]; exact ho, (HB2.out.trans (HBx.out.mono HB2.out.size)).grown hg (HB2.out.trans (HBx.out.mono HB2.out.size)).size fun k hk => (hV.lt k hk).1⟩); clear ho hg hv))
        have hi := HI.out
        go_roundg (g0 - 1)
        case measure => omega
        case rel => exact ⟨i + 1, by omega, by simp, by rw [HS.out]; exact H4.out.1, H4.out.2⟩
      · have hd : decide (r < 0) = false := decide_eq_false hr0
        rw [if_neg hr0, List.append_nil] at HS
        go_wp2_with (first
          | (go_at_call 41; ((with_reducible refine (isTerm_any _ _).mono ?_); rintro e w2 ⟨rfl, rfl⟩)))
        have hi := HI.out
        go_roundg (g0 - 1)
        case measure => omega
        case rel => exact ⟨i + 1, by omega, by simp, by rw [HS.out]; exact hV, HB2.out⟩
    · have hie : i = R.length := by have := HI.out; omega
      subst hie
      rw [List.take_length] at hV
      have HV := Lib.hid hV
      have hvl := Nat.le_trans (vals_len R) hlen
      have HB3 := Lib.hid (HB1.out.trans (HB2.out.mono HB1.out.size))
      rcases hV.2 with ⟨rfl, h0⟩ | ⟨gv, cap, cur, rfl, -⟩
      · have hnil : valsP R = [] := List.eq_nil_of_length_eq_zero h0
        clear h0 hV
        go_wp2_with (go_at_call 42; ((with_reducible refine (Try.slices_Sort_int_none _ _ _).mono ?_); rintro e w2 ⟨rfl, rfl⟩))
        go_ret
        exact ⟨R, _, rfl, by rw [hnil, sort_nil]; exact World.ownsRow_nil _ _ _ _, HRR.out.1, HRR.out.2, hlen, HB3.out⟩
      · obtain ⟨V, hVV⟩ : ∃ V, valsP R = V := ⟨_, rfl⟩
        rw [hVV] at HV hvl hV ⊢
        have HH := Lib.hid (holds_row HV.out)
        have hgl : gv < wr.heap.size := by have := (HV.out.lt gv rfl).2; omega
        have HL : Hid (V.length < 4611686018427387904) := Lib.hid (by omega)
        have HVV := Lib.hid hVV
        clear hV hvl hVV
        go_wp2_with (go_at_call 42; ((with_reducible refine (Try.slices_Sort_int gv 0 cap V _ HH.out hgl HL.out).mono ?_); rintro e w2 ⟨rfl, n2, os2, rfl⟩))
        go_ret
        have hs := sort_row (k := n2) (os := os2) HV.out (sort_len V)
        refine ⟨R, _, rfl, ?_, HRR.out.1, HRR.out.2, hlen, HB3.out.trans (hs.2 _ HB1.out.size HB3.out.size)⟩
        rw [HVV.out, sort_len]
        exact row_up hs.1 HB1.out.size
end
end Go.Proofs.Ytcolinjgfcjimaa
