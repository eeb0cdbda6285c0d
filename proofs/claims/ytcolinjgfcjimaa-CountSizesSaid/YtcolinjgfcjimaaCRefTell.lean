/- The contracts of the document's Tell and One. -/
import Derived.Test.YtcolinjgfcjimaaCSatMath
import Derived.Test.YtcolinjgfcjimaaCRefBase
import Derived.Deep.LoopGhost
namespace Go.Proofs.Ytcolinjgfcjimaa
open Go.RowKit
attribute [local go_sem ↓] Go.wp_at_zero Go.wp_at_succ

/-- What a ref tells for the first numbers. -/
def tellUp (L : List Nd) (f : Int) (i : Nat) : List Int := (List.range i).map fun n => valueP (endP L n f)
theorem tellUp_len (L : List Nd) (f : Int) (i : Nat) : (tellUp L f i).length = i := by unfold tellUp; simp
theorem tellUp_succ (L : List Nd) (f : Int) (i : Nat) : tellUp L f (i + 1) = tellUp L f i ++ [valueP (endP L i f)] := by
  unfold tellUp
  rw [List.range_succ, List.map_append]
  rfl
theorem tellUp_at (L : List Nd) (f : Int) {i n : Nat} (h : i < n) : (tellUp L f n)[i]? = some (valueP (endP L i f)) := by
  unfold tellUp
  rw [List.getElem?_map, List.getElem?_range h]
  rfl
/-- The least number for which a value is told, and whether there is one. -/
def oneX (L : List Nd) (val f : Int) : Int × Bool := if hasP L.length f = true then (if 4096 ≤ oneN L val f then 0 else (oneN L val f : Int), decide (oneN L val f < 4096)) else (0, false)
def RetTell (L : List Nd) (f : Int) (w : World) (e : Ending) (w' : World) : Prop := ∃ g c, e = .returned (.slice (some ⟨g, 0, none⟩) 4096 c) ∧ w'.ownsRow w.heap.size 3 1 (.slice (some ⟨g, 0, none⟩) 4096 c) 4096 ((tellUp L f 4096).map (Value.int .i64)) ∧ Below w.heap.size w w'
section
variable {W : World} {A : Option Addr} {c lim : Nat} {L : List Nd} {f : Int}
set_option maxRecDepth 100000 in
set_option maxHeartbeats 1600000 in
theorem tell_any (h : RefA W A c L) (hR : RightL L) : Calls Try.prog 35 #[.agg #[.int .i64 lim, .slice A L.length c], .int .i64 f] W (RetTell L f W) := by
  have hinfo : (Try.prog.info? 3).map (fun i => (i.zero, i.size, i.bytes)) = some (some (.int .i64 0), 1, 8) := by kernel_rfl
  obtain ⟨i0, hi, hz0, hz1, hz2⟩ := info_parts hinfo
  have HI0 := Lib.hid (And.intro hi (And.intro hz0 (And.intro hz1 hz2)))
  have hb := (Below.refl W.heap.size W).alloc (Nat.le_refl _) (.cells #[.int .i64 lim, .slice A L.length c] 27)
  have hk := Blk.new W 27 #[.int .i64 lim, .slice A L.length c]
  obtain ⟨W1, hW1⟩ : ∃ W1, W.alloc (.cells #[.int .i64 lim, .slice A L.length c] 27) = W1 := ⟨_, rfl⟩
  rw [hW1] at hb hk
  have HRf := Lib.hid (h.below hb)
  have HB := Lib.hid hb
  have HK := Lib.hid hk
  have HU := Lib.hid hR
  clear hinfo hi hz0 hz1 hz2 h hb hk hR
  go_enter Try.func35, Try.ntmps35
  go_wp2_with fail
  go_loopg [5, 6] 4096 (fun gk t5 t6 wr => ∃ i : Nat, i + gk = 4096 ∧ t6 = .int .i64 (i : Int) ∧ wr.ownsRow W1.heap.size 3 1 t5 i ((tellUp L f i).map (Value.int .i64)) ∧ Below W1.heap.size W1 wr)
  case atStart => exact ⟨0, by omega, rfl, World.ownsRow_nil _ _ _ _, Below.refl _ _⟩
  case round =>
    rename Nat => g0
    obtain ⟨i, hi, rfl, hV, hbw⟩ := hrel
    have HI := Lib.hid hi
    have HB2 := Lib.hid hbw
    have HV := Lib.hid hV
    clear hi hbw hV
    by_cases hir : i < 4096
    · obtain ⟨y, hy⟩ : ∃ y, endP L i f = y := ⟨_, rfl⟩
      obtain ⟨z, hz⟩ : ∃ z, valueP y = z := ⟨_, rfl⟩
      have HS : Hid (tellUp L f (i + 1) = tellUp L f i ++ [z]) := Lib.hid (by rw [tellUp_succ, hy, hz])
      have HWk : Hid (Calls Try.prog 58 #[.agg #[.int .i64 lim, .slice A L.length c], .int .i64 f, .int .u64 (i : Int)] wr (RetRB (.int .i64 y) wr)) := Lib.hid (rwalk_any hy (HRf.out.below HB2.out) HU.out (by omega))
      have HVl : Hid (∀ W, Calls Try.prog 46 #[.int .i64 y] W (RetW (.int .i64 z) W)) := Lib.hid fun W => by rw [← hz]; exact rvalue_any y W
      have hbx := HK.out.below HB2.out HK.out.lt
      have c0 : wr.cell? ⟨W.heap.size, 0, none⟩ = some (.int .i64 lim) := hbx.cell 0
      have c1 : wr.cell? ⟨W.heap.size, 1, none⟩ = some (.slice A L.length c) := hbx.cell 1
      have c2 := hbx.lt
      have h64 : IntKind.u64.wrap ((i : Nat) : Int) = (i : Int) := IntWalk.u64_in _ (by omega)
      have HBd : Hid (i + 1 ≤ maxLen ∧ (i + 1) * 8 ≤ 140737488355328) := Lib.hid (by unfold maxLen; omega)
      obtain ⟨hi, hz0, hz1, hz2⟩ := HI0.out
      clear hy hz hbx
      go_wp2_with (first
        | (go_at_call 58; ((with_reducible refine HWk.out.mono ?_); rintro e w3 ⟨rfl, hb3⟩); have HV3 := Lib.hid (own_below HV.out hb3); have HB3 := Lib.hid (HB2.out.trans (hb3.mono HB2.out.size)); clear hb3)
        | (go_at_call 46; ((with_reducible refine (HVl.out _).mono ?_); rintro e w4 ⟨rfl, rfl⟩); have HBx := Lib.hid ((Below.refl w3.heap.size w3).alloc (Nat.le_refl _) (.cells #[.int .i64 z] 3)))
        | (at_builtin; refine wpList_append_at rfl _ _ 39 rfl W1.heap.size 3 i0 (.int .i64 0) 1 8 Try.underlying39 hi hz0 hz1 hz2 rfl (by decide) _ _ _ rfl (HV3.out.alloc _) ⟨w3.heap.size, 0, none⟩ 1 1 [.int .i64 z] rfl rfl ?_ ?_ ?_ ?_ ?_ ?_; exact one_at _ _ _; exact one_one _; exact HBd.out.1; exact HBd.out.2; exact Nat.le_trans HB3.out.size HBx.out.size; intro v' w5 ho hg hv; have H5 := Lib.hid (show w5.ownsRow W1.heap.size 3 1 v' (i + 1) ((tellUp L f i ++ [z]).map (Value.int .i64)) ∧ Below W1.heap.size W1 w5 from ⟨by rw [List.map_append]; exact ho, (HB3.out.trans (HBx.out.mono HB3.out.size)).grown hg (HB3.out.trans (HBx.out.mono HB3.out.size)).size fun k hk => (HV3.out.lt k hk).1⟩); clear ho hg hv))
      have hi := HI.out
      go_roundg (g0 - 1)
      case measure => omega
      case rel => exact ⟨i + 1, by omega, by simp, by rw [HS.out]; exact H5.out.1, H5.out.2⟩
    · have hie : i = 4096 := by have := HI.out; omega
      subst hie
      go_wp2_with fail
      go_ret
      obtain ⟨g, cc, rfl⟩ := row_form (n := 4095) HV.out
      exact ⟨g, cc, rfl, row_up HV.out HB.out.size, HB.out.trans (HB2.out.mono HB.out.size)⟩
set_option maxRecDepth 100000 in
set_option maxHeartbeats 1600000 in
theorem rone_any (h : RefA W A c L) (hR : RightL L) {val x : Int} {b : Bool} (hx : oneX L val f = (x, b)) : Calls Try.prog 13 #[.agg #[.int .i64 lim, .slice A L.length c], .int .i64 f, .int .i64 val] W (RetOne x b W) := by
  have hb := (Below.refl W.heap.size W).alloc (Nat.le_refl _) (.cells #[.int .i64 lim, .slice A L.length c] 27)
  have hk := Blk.new W 27 #[.int .i64 lim, .slice A L.length c]
  obtain ⟨W1, hW1⟩ : ∃ W1, W.alloc (.cells #[.int .i64 lim, .slice A L.length c] 27) = W1 := ⟨_, rfl⟩
  rw [hW1] at hb hk
  have HRf := Lib.hid (h.below hb)
  have HB := Lib.hid hb
  have HK := Lib.hid hk
  have HU := Lib.hid hR
  have c0 : W1.cell? ⟨W.heap.size, 0, none⟩ = some (.int .i64 lim) := hk.cell 0
  have c1 : W1.cell? ⟨W.heap.size, 1, none⟩ = some (.slice A L.length c) := hk.cell 1
  have c2 := hk.lt
  have HH0 : Hid (Calls Try.prog 34 #[.agg #[.int .i64 lim, .slice A L.length c], .int .i64 f] W1 (RetRB (.bool (hasP L.length f)) W1)) := Lib.hid (rhas_any HRf.out)
  clear h hb hk hR
  obtain ⟨hh, hhe⟩ : ∃ hh, hasP L.length f = hh := ⟨_, rfl⟩
  unfold oneX at hx
  rw [hhe] at HH0 hx
  clear hhe
  cases hh
  · cases hx
    go_enter Try.func13, Try.ntmps13
    go_wp2_with (go_at_call 34; ((with_reducible refine HH0.out.mono ?_); rintro e w3 ⟨rfl, hb3⟩))
    go_ret2
    exact ⟨rfl, HB.out.trans (hb3.mono HB.out.size)⟩
  · rw [if_pos rfl] at hx
    have HX := Lib.hid hx
    clear hx
    go_enter Try.func13, Try.ntmps13
    go_wp2_with (first
      | (go_at_call 34; ((with_reducible refine HH0.out.mono ?_); rintro e w3 ⟨rfl, hb3⟩); have HB3 := Lib.hid (HB.out.trans (hb3.mono HB.out.size)); have HT := Lib.hid (tell_any (lim := lim) (f := f) (HRf.out.below hb3) HU.out); have k3 := HK.out.below hb3 HK.out.lt; have d0 : w3.cell? ⟨W.heap.size, 0, none⟩ = some (.int .i64 lim) := k3.cell 0; have d1 : w3.cell? ⟨W.heap.size, 1, none⟩ = some (.slice A L.length c) := k3.cell 1; have d2 := k3.lt; clear hb3 k3)
      | (go_at_call 35; ((with_reducible refine HT.out.mono ?_); rintro e w4 ⟨g, cc, rfl, hr4, hb4⟩); have HB4 := Lib.hid (HB3.out.trans (hb4.mono HB3.out.size)); have HR4 := Lib.hid hr4; clear hr4 hb4))
    have hg4 : g < w4.heap.size := (HR4.out.lt g rfl).2
    go_loopg [9] 4096 (fun gk t9 wr => ∃ i : Nat, i + gk = 4096 ∧ t9 = .int .i64 (i : Int) ∧ wr = w4 ∧ ∀ j, j < i → ¬ valueP (endP L j f) = val)
    case atStart => exact ⟨0, by omega, rfl, rfl, fun j hj => absurd hj (Nat.not_lt_zero _)⟩
    case round =>
      rename Nat => g0
      obtain ⟨i, hi, rfl, rfl, hall⟩ := hrel
      have HI := Lib.hid hi
      have HAll := Lib.hid hall
      clear hi hall
      by_cases hir : i < 4096
      · obtain ⟨z, hz⟩ : ∃ z, valueP (endP L i f) = z := ⟨_, rfl⟩
        have hce : wr.cell? ⟨g, i, none⟩ = some (.int .i64 z) := (HR4.out.cellAt i (by omega)).trans (by rw [List.getElem?_map, tellUp_at L f hir, hz]; rfl)
        have HZ := Lib.hid hz
        have h64 : IntKind.u64.wrap ((i : Nat) : Int) = (i : Int) := IntWalk.u64_in _ (by omega)
        clear hz
        by_cases hzv : z = val
        · subst hzv
          have HE : Hid (oneN L z f = i) := Lib.hid (by
            have h1 := one_least HU.out z f i hir HZ.out
            have h2 := (one_told HU.out z f (by omega)).1
            have h3 : ¬ oneN L z f < i := fun h => HAll.out _ h h2
            omega)
          go_wp2_with fail
          go_ret2
          have hx := HX.out
          rw [HE.out, if_neg (by omega), decide_eq_true hir] at hx
          cases hx
          exact ⟨rfl, HB4.out⟩
        · have hd : (z == val) = false := by simpa using hzv
          have HZv := Lib.hid hzv
          go_wp2_with fail
          have hi := HI.out
          go_roundg (g0 - 1)
          case measure => omega
          case rel => exact ⟨i + 1, by omega, by simp, rfl, fun j hj => by
            by_cases e : j = i
            · subst e; rw [HZ.out]; exact HZv.out
            · exact HAll.out j (by omega)⟩
      · have hie : i = 4096 := by have := HI.out; omega
        subst hie
        have HE : Hid (4096 ≤ oneN L val f) := Lib.hid (Nat.le_of_not_lt fun h => HAll.out _ h (one_told HU.out val f h).1)
        go_wp2_with fail
        go_ret2
        have hx := HX.out
        rw [if_pos HE.out, decide_eq_false (Nat.not_lt.2 HE.out)] at hx
        cases hx
        exact ⟨rfl, HB4.out⟩
end
end Go.Proofs.Ytcolinjgfcjimaa
