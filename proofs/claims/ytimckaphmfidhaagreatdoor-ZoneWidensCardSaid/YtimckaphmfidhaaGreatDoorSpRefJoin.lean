/- The contract of the document's Join. -/
import Derived.Test.YtimckaphmfidhaaGreatDoorSpRefHull
import Derived.Test.YtimckaphmfidhaaGreatDoorGSp
import Derived.Test.YtimckaphmfidhaaGreatDoorGFound
namespace Go.Proofs.YtimckaphmfidhaaGreatDoor.Sp
open Go.RowKit
attribute [local go_sem ↓] Go.wp_at_zero Go.wp_at_succ eq24 eq23 neq24 eqg24 eqg23
theorem own_below {w w' : World} {base : Nat} {e : TypeId} {size n : Nat} {v : Value} {xs : List Value} (h : w.ownsRow base e size v n xs) (hb : Below w.heap.size w w') : w'.ownsRow base e size v n xs :=
  h.kept (row := none) ⟨hb.os, hb.tape, hb.output, hb.size, fun i hi _ => hb.block i hi⟩ (by cases v.ownBlock <;> simp)
theorem info3 : (Tryz.prog.info? 3).map (fun i => (i.zero, i.size, i.bytes)) = some (some (.int .i64 0), 1, 8) := by kernel_rfl

theorem ints_of_own {w : World} {base : Nat} {v : Value} {xs : List Int} (h : w.ownsRow base 3 1 v xs.length (xs.map (Value.int .i64))) :
    ∃ (A : Option Addr) (cap : Nat), v = .slice A xs.length cap ∧ xs.length ≤ cap ∧ Ints w A xs.length (fun j => xs.getD j 0) := by
  have h' := h
  obtain ⟨hl, ⟨rfl, h0⟩ | ⟨g, cap, cur, rfl, hb, hcur, hn, hm, hs, ht⟩⟩ := h
  · exact ⟨none, 0, by rw [h0], by omega, fun hp => absurd hp (by omega)⟩
  · refine ⟨some ⟨g, 0, none⟩, cap, rfl, hn, fun _ => ⟨g, 0, rfl, ?_, fun j hj => ?_⟩⟩
    · rcases Nat.lt_or_ge g w.heap.size with hlt | hge
      · exact hlt
      · rw [Array.getElem?_eq_none hge] at hcur; cases hcur
    · have := h'.cellAt j (by omega)
      rw [Nat.zero_add, this, List.getElem?_map, List.getElem?_eq_getElem hj]
      simp [List.getD, List.getElem?_eq_getElem hj]

theorem news2 (w : World) (p q : Int) : ∀ j u, ([.int .i64 p, .int .i64 q] : List Value)[j]? = some u → (w.alloc (.cells #[.int .i64 p, .int .i64 q] 3)).cell? ((⟨w.heap.size, 0, none⟩ : Addr).add j) = some u := by
  intro j u hj
  match j, hj with
  | 0, hj => simp at hj; subst hj; go_simp
  | 1, hj => simp at hj; subst hj; simp [Addr.add]
  | j + 2, hj => simp at hj
theorem one2 (p q : Int) : ∀ u ∈ ([.int .i64 p, .int .i64 q] : List Value), u.oneCell' = true := by
  intro u hu
  simp at hu
  rcases hu with rfl | rfl <;> rfl
theorem rhull_own {w : World} {base : Nat} {v : Value} (xs : List Int) (h : w.ownsRow base 3 1 v xs.length (xs.map (Value.int .i64))) (hz : xs.length ≤ 100) : Calls Tryz.prog 128 #[v] w (RetSpan (hullL (fun j => xs.getD j 0) xs.length) (hullH (fun j => xs.getD j 0) xs.length) w) := by
  obtain ⟨A, cap, rfl, -, hI⟩ := ints_of_own h
  generalize hm : xs.length = m at hI hz ⊢
  match m with
  | 0 => exact rhull_none A cap w
  | m + 1 =>
    obtain ⟨b, off, rfl, hb, hc⟩ := hI (by omega)
    exact rhull_any _ b off (m + 1) cap w (by omega) (fun _ => hb) hc

/-- What the document gathers, and the span of it. -/
def joinXs (a b c d : Int) : List Int := (if noneS a b = true then [] else [a, b]) ++ (if noneS c d = true then [] else [c, d])
theorem joinXs_hull (a b c d : Int) : hullL (fun j => (joinXs a b c d).getD j 0) (joinXs a b c d).length = joinL a b c d ∧ hullH (fun j => (joinXs a b c d).getD j 0) (joinXs a b c d).length = joinH a b c d := by
  unfold joinXs joinL joinH
  cases h1 : noneS a b <;> cases h2 : noneS c d
  · have e1 := noneS_no h1
    have e2 := noneS_no h2
    simp [hullL, hullH, mnF, mxF]
    rcases of_cases (min a (min b (min c d))) (max a (max b (max c d))) with k | k <;> omega
  · have e1 := noneS_no h1
    simp [hullL, hullH, mnF, mxF]
    rcases of_cases (min a b) (max a b) with k | k <;> omega
  · have e2 := noneS_no h2
    simp [hullL, hullH, mnF, mxF]
    rcases of_cases (min c d) (max c d) with k | k <;> omega
  · have e2 := noneS_yes h2
    simp [hullL, hullH, e2]

set_option maxHeartbeats 3200000 in
theorem rjoin_any (a b c d : Int) (w : World) : Calls Tryz.prog 94 #[.agg #[.int .i64 a, .int .i64 b], .agg #[.int .i64 c, .int .i64 d]] w (RetSpan (joinL a b c d) (joinH a b c d) w) := by
  rw [← (joinXs_hull a b c d).1, ← (joinXs_hull a b c d).2]
  obtain ⟨i0, hi, hi0, hi1, hi2⟩ := info_parts info3
  have HX := Lib.hid (rboxes_new w a b c d 0 0)
  unfold joinXs
  cases h1 : noneS a b <;> cases h2 : noneS c d
  all_goals simp only [Bool.false_eq_true, if_true, if_false, List.append_nil, List.nil_append, List.cons_append]
  · go_enter Tryz.func94, Tryz.ntmps94
    go_wp2_with fail
    refine (rnone_any a b _).mono ?_
    rintro e w1 ⟨rfl, hb1⟩
    have HX1 := Lib.hid (HX.out.below hb1)
    clear hb1
    obtain ⟨⟨z0, p0, p1, f0, f1⟩, ⟨z1, q0, q1, g0, g1⟩, ⟨z2, r0, r1, e0, e1⟩, -⟩ := HX1.out
    go_wp2_with (at_builtin; refine wpList_append_own _ rfl (.tmp 9) (.tmp 14) 22 rfl w1.heap.size 3 i0 (.int .i64 0) 1 8 Tryz.underlying22 hi hi0 hi1 hi2 rfl (by decide) _ 0 [] rfl (World.ownsRow_nil _ _ _ _) ⟨w1.heap.size, 0, none⟩ 2 2 [.int .i64 a, .int .i64 b] rfl rfl (news2 w1 a b) (one2 a b) (by unfold maxLen; omega) (by omega) (by simp <;> omega) ?_; intro v4 w4 hown hgrow _; have Ow4 := Lib.hid hown; have Gw4 := Lib.hid hgrow; clear hown hgrow; have B4 := Lib.hid (show Below w1.heap.size w1 w4 from ((Below.refl _ _).alloc (Nat.le_refl _) _).grown Gw4.out (by simp) (fun g hg => by cases hg)); have HX4 := Lib.hid (HX1.out.below B4.out); clear z0 p0 p1 f0 f1 z1 q0 q1 g0 g1 z2 r0 r1 e0 e1; obtain ⟨⟨z0, p0, p1, f0, f1⟩, ⟨z1, q0, q1, g0, g1⟩, ⟨z2, r0, r1, e0, e1⟩, -⟩ := HX4.out)
    refine (rnone_any c d _).mono ?_
    rintro e w5 ⟨rfl, hb5⟩
    have HB5 := Lib.hid hb5
    have HX5 := Lib.hid (HX4.out.below hb5)
    clear hb5
    clear z0 p0 p1 f0 f1 z1 q0 q1 g0 g1 z2 r0 r1 e0 e1
    obtain ⟨⟨z0, p0, p1, f0, f1⟩, ⟨z1, q0, q1, g0, g1⟩, ⟨z2, r0, r1, e0, e1⟩, -⟩ := HX5.out
    have O5 := Lib.hid (own_below Ow4.out HB5.out)
    have hs5 : w1.heap.size ≤ w5.heap.size := by have := B4.out.size; have := HB5.out.size; omega
    go_wp2_with (at_builtin; refine wpList_append_own _ rfl (.tmp 19) (.tmp 24) 22 rfl w1.heap.size 3 i0 (.int .i64 0) 1 8 Tryz.underlying22 hi hi0 hi1 hi2 rfl (by decide) v4 2 _ rfl (O5.out.alloc _) ⟨w5.heap.size, 0, none⟩ 2 2 [.int .i64 c, .int .i64 d] rfl rfl (news2 w5 c d) (one2 c d) (by unfold maxLen; omega) (by omega) (by simp <;> omega) ?_; intro v6 w6 hown hgrow _; have Ow6 := Lib.hid hown; have Gw6 := Lib.hid hgrow; clear hown hgrow)
    have B6 := Lib.hid (show Below w1.heap.size w1 w6 from (((B4.out.trans (HB5.out.mono B4.out.size)).alloc hs5 _).grown Gw6.out (by simp <;> omega) (fun g hg => (Ow4.out.lt g hg).1)))
    have HX6 := Lib.hid (HX1.out.below B6.out)
    clear z0 p0 p1 f0 f1 z1 q0 q1 g0 g1 z2 r0 r1 e0 e1
    obtain ⟨⟨z0, p0, p1, f0, f1⟩, ⟨z1, q0, q1, g0, g1⟩, ⟨z2, r0, r1, e0, e1⟩, -⟩ := HX6.out
    go_wp2_with fail
    refine (rhull_own [a, b, c, d] Ow6.out (by simp)).mono ?_
    rintro e w7 ⟨rfl, hb7⟩
    have HX7 := Lib.hid (HX6.out.below hb7)
    clear hb7
    clear z0 p0 p1 f0 f1 z1 q0 q1 g0 g1 z2 r0 r1 e0 e1
    obtain ⟨⟨z0, p0, p1, f0, f1⟩, ⟨z1, q0, q1, g0, g1⟩, ⟨z2, r0, r1, e0, e1⟩, -⟩ := HX7.out
    go_wp2_with fail
    refine rpost_span ?_ rfl ?_
    · simp [results, Tryz.results94, go_sem, r0, r1]
    exact HX7.out.put_out _ _
  · go_enter Tryz.func94, Tryz.ntmps94
    go_wp2_with fail
    refine (rnone_any a b _).mono ?_
    rintro e w1 ⟨rfl, hb1⟩
    have HX1 := Lib.hid (HX.out.below hb1)
    clear hb1
    obtain ⟨⟨z0, p0, p1, f0, f1⟩, ⟨z1, q0, q1, g0, g1⟩, ⟨z2, r0, r1, e0, e1⟩, -⟩ := HX1.out
    go_wp2_with (at_builtin; refine wpList_append_own _ rfl (.tmp 9) (.tmp 14) 22 rfl w1.heap.size 3 i0 (.int .i64 0) 1 8 Tryz.underlying22 hi hi0 hi1 hi2 rfl (by decide) _ 0 [] rfl (World.ownsRow_nil _ _ _ _) ⟨w1.heap.size, 0, none⟩ 2 2 [.int .i64 a, .int .i64 b] rfl rfl (news2 w1 a b) (one2 a b) (by unfold maxLen; omega) (by omega) (by simp <;> omega) ?_; intro v4 w4 hown hgrow _; have Ow4 := Lib.hid hown; have Gw4 := Lib.hid hgrow; clear hown hgrow; have B4 := Lib.hid (show Below w1.heap.size w1 w4 from ((Below.refl _ _).alloc (Nat.le_refl _) _).grown Gw4.out (by simp) (fun g hg => by cases hg)); have HX4 := Lib.hid (HX1.out.below B4.out); clear z0 p0 p1 f0 f1 z1 q0 q1 g0 g1 z2 r0 r1 e0 e1; obtain ⟨⟨z0, p0, p1, f0, f1⟩, ⟨z1, q0, q1, g0, g1⟩, ⟨z2, r0, r1, e0, e1⟩, -⟩ := HX4.out)
    refine (rnone_any c d _).mono ?_
    rintro e w5 ⟨rfl, hb5⟩
    have HB5 := Lib.hid hb5
    have HX5 := Lib.hid (HX4.out.below hb5)
    clear hb5
    clear z0 p0 p1 f0 f1 z1 q0 q1 g0 g1 z2 r0 r1 e0 e1
    obtain ⟨⟨z0, p0, p1, f0, f1⟩, ⟨z1, q0, q1, g0, g1⟩, ⟨z2, r0, r1, e0, e1⟩, -⟩ := HX5.out
    have O5 := Lib.hid (own_below Ow4.out HB5.out)
    go_wp2_with fail
    refine (rhull_own [a, b] O5.out (by simp)).mono ?_
    rintro e w7 ⟨rfl, hb7⟩
    have HX7 := Lib.hid (HX5.out.below hb7)
    clear hb7
    clear z0 p0 p1 f0 f1 z1 q0 q1 g0 g1 z2 r0 r1 e0 e1
    obtain ⟨⟨z0, p0, p1, f0, f1⟩, ⟨z1, q0, q1, g0, g1⟩, ⟨z2, r0, r1, e0, e1⟩, -⟩ := HX7.out
    go_wp2_with fail
    refine rpost_span ?_ rfl ?_
    · simp [results, Tryz.results94, go_sem, r0, r1]
    exact HX7.out.put_out _ _
  · go_enter Tryz.func94, Tryz.ntmps94
    go_wp2_with fail
    refine (rnone_any a b _).mono ?_
    rintro e w1 ⟨rfl, hb1⟩
    have HX1 := Lib.hid (HX.out.below hb1)
    clear hb1
    obtain ⟨⟨z0, p0, p1, f0, f1⟩, ⟨z1, q0, q1, g0, g1⟩, ⟨z2, r0, r1, e0, e1⟩, -⟩ := HX1.out
    go_wp2_with fail
    refine (rnone_any c d _).mono ?_
    rintro e w5 ⟨rfl, hb5⟩
    have HB5 := Lib.hid hb5
    have HX5 := Lib.hid (HX1.out.below hb5)
    clear hb5
    clear z0 p0 p1 f0 f1 z1 q0 q1 g0 g1 z2 r0 r1 e0 e1
    obtain ⟨⟨z0, p0, p1, f0, f1⟩, ⟨z1, q0, q1, g0, g1⟩, ⟨z2, r0, r1, e0, e1⟩, -⟩ := HX5.out
    go_wp2_with (at_builtin; refine wpList_append_own _ rfl (.tmp 19) (.tmp 24) 22 rfl w5.heap.size 3 i0 (.int .i64 0) 1 8 Tryz.underlying22 hi hi0 hi1 hi2 rfl (by decide) _ 0 [] rfl (World.ownsRow_nil _ _ _ _) ⟨w5.heap.size, 0, none⟩ 2 2 [.int .i64 c, .int .i64 d] rfl rfl (news2 w5 c d) (one2 c d) (by unfold maxLen; omega) (by omega) (by simp <;> omega) ?_; intro v6 w6 hown hgrow _; have Ow6 := Lib.hid hown; have Gw6 := Lib.hid hgrow; clear hown hgrow)
    have B6 := Lib.hid (show Below w5.heap.size w5 w6 from ((Below.refl _ _).alloc (Nat.le_refl _) _).grown Gw6.out (by simp) (fun g hg => by cases hg))
    have HX6 := Lib.hid (HX5.out.below B6.out)
    clear z0 p0 p1 f0 f1 z1 q0 q1 g0 g1 z2 r0 r1 e0 e1
    obtain ⟨⟨z0, p0, p1, f0, f1⟩, ⟨z1, q0, q1, g0, g1⟩, ⟨z2, r0, r1, e0, e1⟩, -⟩ := HX6.out
    go_wp2_with fail
    refine (rhull_own [c, d] Ow6.out (by simp)).mono ?_
    rintro e w7 ⟨rfl, hb7⟩
    have HX7 := Lib.hid (HX6.out.below hb7)
    clear hb7
    clear z0 p0 p1 f0 f1 z1 q0 q1 g0 g1 z2 r0 r1 e0 e1
    obtain ⟨⟨z0, p0, p1, f0, f1⟩, ⟨z1, q0, q1, g0, g1⟩, ⟨z2, r0, r1, e0, e1⟩, -⟩ := HX7.out
    go_wp2_with fail
    refine rpost_span ?_ rfl ?_
    · simp [results, Tryz.results94, go_sem, r0, r1]
    exact HX7.out.put_out _ _
  · go_enter Tryz.func94, Tryz.ntmps94
    go_wp2_with (first
      | (go_at_call 95; ((with_reducible refine (rnone_any a b _).mono ?_); rintro e w1 ⟨rfl, hb1⟩); have HX1 := Lib.hid (HX.out.below hb1); obtain ⟨⟨z0, p0, p1, f0, f1⟩, ⟨z1, q0, q1, g0, g1⟩, ⟨z2, r0, r1, e0, e1⟩, -⟩ := HX1.out)
      | (go_at_call 95; ((with_reducible refine (rnone_any c d _).mono ?_); rintro e w2 ⟨rfl, hb2⟩); have HX2 := Lib.hid (HX1.out.below hb2); obtain ⟨⟨z0, p0, p1, f0, f1⟩, ⟨z1, q0, q1, g0, g1⟩, ⟨z2, r0, r1, e0, e1⟩, -⟩ := HX2.out)
      | (go_at_call 128; ((with_reducible refine (rhull_none _ _ _).mono ?_); rintro e w3 ⟨rfl, hb3⟩); have HX3 := Lib.hid (HX2.out.below hb3); obtain ⟨⟨z0, p0, p1, f0, f1⟩, ⟨z1, q0, q1, g0, g1⟩, ⟨z2, r0, r1, e0, e1⟩, -⟩ := HX3.out))
    refine rpost_span ?_ rfl ?_
    · simp [results, Tryz.results94, go_sem, r0, r1, hullL, hullH]
    exact HX3.out.put_out _ _
end Go.Proofs.YtimckaphmfidhaaGreatDoor.Sp
