/- The contract of the document's Sat. -/
import Derived.Test.YtcolinjgfcjimaaCRefTell
import Derived.Test.YtcolinjgfcjimaaCRefBelow
import Derived.Deep.LoopGhost
import Derived.BigQuiet
namespace Go.Proofs.Ytcolinjgfcjimaa
open Go.RowKit
attribute [local go_sem ↓] Go.wp_at_zero Go.wp_at_succ

theorem cnt_up (P : Nat → Bool) (i : Nat) : (List.range (i + 1)).countP P = (List.range i).countP P + if P i = true then 1 else 0 := by
  rw [List.range_succ, List.countP_append]
  simp [List.countP_cons]
theorem pow_12 {i : Nat} (h : i ≤ 12) : 2 ^ i ≤ 4096 := show 2 ^ i ≤ 2 ^ 12 from Nat.pow_le_pow_right (by omega) h
section
variable {W : World} {A : Option Addr} {c lim : Nat} {L : List Nd} {f : Int}
set_option maxRecDepth 100000 in
set_option maxHeartbeats 6400000 in
theorem rsat_any (h : RefA W A c L) (hR : RightL L) (val n : Int) : Calls Try.prog 15 #[.agg #[.int .i64 lim, .slice A L.length c], .int .i64 f, .int .i64 val, .int .i64 n] W (RetSat L f val n W) := by
  have hcap := h.cap
  have hLfew := h.2
  have hb := (Below.refl W.heap.size W).alloc (Nat.le_refl _) (.cells #[.int .i64 lim, .slice A L.length c] 27)
  have hk := Blk.new W 27 #[.int .i64 lim, .slice A L.length c]
  obtain ⟨W1, hW1⟩ : ∃ W1, W.alloc (.cells #[.int .i64 lim, .slice A L.length c] 27) = W1 := ⟨_, rfl⟩
  rw [hW1] at hb hk
  have HBx : Hid (BoxR W.heap.size lim L A c W1) := Lib.hid ⟨h.below hb, hk⟩
  have HB := Lib.hid hb
  have HU := Lib.hid hR
  obtain ⟨c2, c0, c1⟩ := HBx.out.cells
  clear h hb hk hR
  by_cases h0 : n < 0
  · have hd : decide (n < 0) = true := decide_eq_true h0
    go_enter Try.func15, Try.ntmps15
    go_wp2_with fail
    go_ret
    exact ⟨0, rfl, fun h => absurd h.1.1 (by omega), fun _ => rfl, HB.out⟩
  · have hd : decide (n < 0) = false := decide_eq_false h0
    by_cases h1 : 12 < n
    · have hd1 : decide (12 < n) = true := decide_eq_true h1
      go_enter Try.func15, Try.ntmps15
      go_wp2_with fail
      go_ret
      exact ⟨0, rfl, fun h => absurd h.1.2 (by omega), fun _ => rfl, HB.out⟩
    · have hd1 : decide (12 < n) = false := decide_eq_false h1
      obtain ⟨hh, hhe⟩ : ∃ hh, hasP L.length f = hh := ⟨_, rfl⟩
      have HH0 : Hid (Calls Try.prog 34 #[.agg #[.int .i64 lim, .slice A L.length c], .int .i64 f] W1 (RetRB (.bool hh) W1)) := Lib.hid (by rw [← hhe]; exact rhas_any HBx.out.ref)
      have HHe := Lib.hid hhe
      clear hhe
      cases hh
      · go_enter Try.func15, Try.ntmps15
        go_wp2_with (go_at_call 34; ((with_reducible refine HH0.out.mono ?_); rintro e w3 ⟨rfl, hb3⟩))
        go_ret
        exact ⟨0, rfl, fun h => absurd (HHe.out.symm.trans h.2.1) (by decide), fun _ => rfl, HB.out.trans (hb3.mono HB.out.size)⟩
      · obtain ⟨m, rfl⟩ : ∃ m : Nat, n = (m : Int) := ⟨n.toNat, by omega⟩
        have hm12 : m ≤ 12 := by omega
        have HN : Hid ((0 : Int) ≤ m ∧ (m : Int) ≤ 12) := Lib.hid (by omega)
        clear h0 h1
        go_enter Try.func15, Try.ntmps15
        go_wp2_with (first
          | (go_at_call 34; ((with_reducible refine HH0.out.mono ?_); rintro e w3 ⟨rfl, hb3⟩); have HBx3 := Lib.hid (HBx.out.below hb3); have HB3 := Lib.hid (HB.out.trans (hb3.mono HB.out.size)); obtain ⟨d2, d0, d1⟩ := HBx3.out.cells; clear hb3)
          | (go_at_call 39; ((with_reducible refine (rbel_any HBx3.out.ref HU.out f).mono ?_); rintro e w5 ⟨g, cc, R, rfl, hrow, hb5, hnd, hrr, hlen⟩); have HBx5 := Lib.hid (HBx3.out.below hb5); have HB5 := Lib.hid (HB3.out.trans (hb5.mono HB3.out.size)); have HRow := Lib.hid hrow; have HRR := Lib.hid hrr; clear hrow hb5 hrr hnd))
        have hg5 : g < w5.heap.size := (HRow.out.lt g rfl).2
        go_loopg [10] R.length (fun gk t10 wr => ∃ i : Nat, i + gk = R.length ∧ t10 = .int .i64 (i : Int) ∧ Below w5.heap.size w5 wr ∧ ∀ j r, j < i → R[j]? = some r → r < 0 ∨ varP L r < (m : Int))
        case atStart => exact ⟨0, by omega, rfl, Below.refl _ _, fun j r hj => absurd hj (Nat.not_lt_zero _)⟩
        case round =>
          rename Nat => g0
          obtain ⟨i, hi, rfl, hbw, hall⟩ := hrel
          have HI := Lib.hid hi
          have HBw := Lib.hid (HB5.out.trans (hbw.mono HB5.out.size))
          have HB2 := Lib.hid hbw
          have HAll := Lib.hid hall
          have hgw : g < wr.heap.size := Nat.lt_of_lt_of_le hg5 hbw.size
          have HBxw := Lib.hid (HBx5.out.below hbw)
          clear hi hbw hall
          by_cases hir : i < R.length
          · obtain ⟨r, hr⟩ : ∃ r, R[i]? = some r := ⟨_, List.getElem?_eq_getElem hir⟩
            have hce := row_cell HRow.out HB2.out hr rfl
            have HRi := Lib.hid hr
            have HOk : Hid ((r < 0 ∨ varP L r < (m : Int)) → ∀ j q, j < i + 1 → R[j]? = some q → q < 0 ∨ varP L q < (m : Int)) := Lib.hid fun h1 j q hj hq => by
              by_cases e : j = i
              · subst e
                rw [hr] at hq
                cases hq
                exact h1
              · exact HAll.out j q (by omega) hq
            clear hr
            by_cases hr0 : r < 0
            · have hdr : decide (0 ≤ r) = false := decide_eq_false (by omega)
              go_wp2_with fail
              go_quiet (fail)
              go_wp2_with fail
              have hi := HI.out
              go_roundg (g0 - 1)
              case measure => omega
              case rel => exact ⟨i + 1, by omega, by simp, HB2.out.trans ((drewN_below _ _).mono HB2.out.size), HOk.out (.inl hr0)⟩
            · have hdr : decide (0 ≤ r) = true := decide_eq_true (by omega)
              have HRb : Hid (Reach L f r) := Lib.hid ((HRR.out r).1 (List.mem_of_getElem? HRi.out))
              have hrh := HRb.out.has HU.out HHe.out
              rw [hasP_iff] at hrh
              obtain ⟨k, rfl⟩ : ∃ k : Nat, r = (k : Int) := ⟨r.toNat, by omega⟩
              have hkl : k < L.length := by omega
              obtain ⟨x1, x2, x3, hx⟩ := node_named hkl
              have hvp : varP L (k : Int) = x1 := varP_at hx
              obtain ⟨gA, hA, hgA, n0, -, -⟩ := HBxw.out.ref.node hx
              obtain ⟨e2, e0, e1⟩ := HBxw.out.cells
              subst hA
              rw [hvp] at HOk
              have HVp := Lib.hid hvp
              clear hx hvp hrh hr0
              by_cases hxm : (m : Int) ≤ x1
              · have hdx : decide ((m : Int) ≤ x1) = true := decide_eq_true hxm
                go_wp2_with fail
                go_quiet (fail)
                go_wp2_with fail
                go_ret
                exact ⟨0, rfl, fun h => absurd (h.2.2 _ HRb.out) (by rw [HVp.out]; omega), fun _ => rfl, HBw.out.trans ((drewN_below _ _).mono HBw.out.size)⟩
              · have hdx : decide ((m : Int) ≤ x1) = false := decide_eq_false hxm
                go_wp2_with fail
                go_quiet (fail)
                go_wp2_with fail
                have hi := HI.out
                go_roundg (g0 - 1)
                case measure => omega
                case rel => exact ⟨i + 1, by omega, by simp, HB2.out.trans ((drewN_below _ _).mono HB2.out.size), HOk.out (.inr (by omega))⟩
          · have hie : i = R.length := by have := HI.out; omega
            have HD : Hid (∀ r, Reach L f r → r < 0 ∨ varP L r < (m : Int)) := Lib.hid fun r hr => by
              obtain ⟨j, hj⟩ := List.mem_iff_getElem?.1 ((HRR.out r).2 hr)
              exact HAll.out j r (by have := (List.getElem?_eq_some_iff.1 hj).1; omega) hj
            have HT := Lib.hid (tell_any (lim := lim) (f := f) HBxw.out.ref HU.out)
            obtain ⟨e2, e0, e1⟩ := HBxw.out.cells
            subst hie
            go_wp2_with fail
            go_loop [11, 12] (fun t11 t12 => ∃ i : Nat, i ≤ m ∧ t12 = .int .i64 (i : Int) ∧ t11 = .int .i64 ((2 ^ i : Nat) : Int)) (fun _ t12 => m - (intOf t12).toNat)
            case atStart => exact ⟨0, Nat.zero_le _, rfl, rfl⟩
            case round =>
              obtain ⟨i, him, rfl, rfl⟩ := hrel
              have hpi := pow_12 (show i ≤ 12 by omega)
              obtain ⟨q, hq⟩ : ∃ q, 2 ^ i = q := ⟨_, rfl⟩
              rw [hq] at hpi ⊢
              by_cases hiv : i < m
              · have HQ := Lib.hid hq
                clear hq
                go_wp2_with fail
                go_round
                case rel => exact ⟨i + 1, by omega, by go_num, by rw [Nat.pow_succ, HQ.out]; simp⟩
                case measure => simp [intOf]; omega
              · have hie : i = m := by omega
                subst hie
                have HQ := Lib.hid hq
                have HSa : Hid (satN L i val f = (List.range q).countP (toldB L val f)) := Lib.hid (by rw [← hq]; exact sat_is HU.out i val f HD.out HHe.out)
                clear hq hiv him
                go_wp2_with (first
                  | (go_at_call 35; ((with_reducible refine HT.out.mono ?_); rintro e w6 ⟨g6, c6, rfl, hr6, hb6⟩); have HB6 := Lib.hid (HBw.out.trans (hb6.mono HBw.out.size)); have HR6 := Lib.hid hr6; clear hr6 hb6))
                have hg6 : g6 < w6.heap.size := (HR6.out.lt g6 rfl).2
                go_loopg [14, 15] q (fun gk t14 t15 wq => ∃ j : Nat, j + gk = q ∧ t15 = .int .i64 (j : Int) ∧ t14 = .int .i64 (((List.range j).countP (toldB L val f) : Nat) : Int) ∧ wq = w6)
                case atStart => exact ⟨0, by omega, rfl, rfl, rfl⟩
                case round =>
                  rename Nat => g1
                  obtain ⟨j, hj, rfl, rfl, rfl⟩ := hrel
                  have HJ := Lib.hid hj
                  clear hj
                  by_cases hjq : j < q
                  · obtain ⟨z, hz⟩ : ∃ z, valueP (endP L j f) = z := ⟨_, rfl⟩
                    have hce : wr.cell? ⟨g6, j, none⟩ = some (.int .i64 z) := (HR6.out.cellAt j (by omega)).trans (by rw [List.getElem?_map, tellUp_at L f (show j < 4096 by omega), hz]; rfl)
                    have HS := Lib.hid (cnt_up (toldB L val f) j)
                    have hle : (List.range j).countP (toldB L val f) ≤ j := Nat.le_trans List.countP_le_length (by simp)
                    obtain ⟨u, hu⟩ : ∃ u, (List.range j).countP (toldB L val f) = u := ⟨_, rfl⟩
                    rw [hu] at HS hle ⊢
                    have htb : toldB L val f j = decide (z = val) := by unfold toldB; rw [hz]
                    rw [htb] at HS
                    clear hz hu htb
                    by_cases hzv : z = val
                    · have HZ := Lib.hid (decide_eq_true hzv)
                      subst hzv
                      go_wp2_with fail
                      have hj := HJ.out
                      go_roundg (g1 - 1)
                      case measure => omega
                      case rel => exact ⟨j + 1, by omega, by simp, by rw [HS.out, if_pos HZ.out]; simp, rfl⟩
                    · have hdz : (z == val) = false := by simpa using hzv
                      have HZ := Lib.hid (show ¬ decide (z = val) = true by simpa using hzv)
                      clear hzv
                      go_wp2_with fail
                      have hj := HJ.out
                      go_roundg (g1 - 1)
                      case measure => omega
                      case rel => exact ⟨j + 1, by omega, by simp, by rw [HS.out, if_neg HZ.out]; simp, rfl⟩
                  · have hje : j = q := by have := HJ.out; omega
                    subst hje
                    go_wp2_with fail
                    go_ret
                    exact ⟨_, rfl, fun _ => by rw [Int.toNat_natCast, HSa.out], fun h => absurd ⟨HN.out, HHe.out, HD.out⟩ h, HB6.out⟩
end
end Go.Proofs.Ytcolinjgfcjimaa
