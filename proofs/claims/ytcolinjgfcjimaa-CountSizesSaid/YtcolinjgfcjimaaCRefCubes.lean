/- The contract of the document's Cubes. -/
import Derived.Test.YtcolinjgfcjimaaCRefBase
import Derived.Test.YtcolinjgfcjimaaCLaw
import Derived.Deep.LoopGhost
namespace Go.Proofs.Ytcolinjgfcjimaa
open Go.RowKit
attribute [local go_sem ↓] Go.wp_at_zero Go.wp_at_succ

theorem pow_up {m V : Nat} {x : Int} (hm : m < 2 ^ V) (h : (V : Int) < x) : m + 2 ^ V < 2 ^ x.toNat := by
  have : 2 ^ (V + 1) ≤ 2 ^ x.toNat := Nat.pow_le_pow_right (by omega) (by omega)
  rw [Nat.pow_succ] at this
  omega
theorem pow_few {V : Nat} (h : V < 12) : 2 ^ V ≤ 2048 := show 2 ^ V ≤ 2 ^ 11 from Nat.pow_le_pow_right (by omega) (by omega)
/-- What is asked of Cubes at a ref. -/
def CubAt (lim : Nat) (L : List Nd) (val r : Int) : Prop := hasP L.length r = true → ∀ (m b : Nat), m < 2 ^ (varP L r).toNat → b < 2 ^ (varP L r).toNat → ∀ (W : World) (A : Option Addr) (c : Nat), RefA W A c L →
  Calls Try.prog 23 #[.agg #[.int .i64 lim, .slice A L.length c], .int .i64 r, .int .i64 val, .agg #[.int .u64 (m : Int), .int .u64 (b : Int)]] W (RetRC (refC L val m b r) W)
/-- The two boxes of the call. -/
theorem cub_boxes {L : List Nd} {lim : Nat} {m b : Int} {W : World} {A : Option Addr} {c : Nat} (h : RefA W A c L) : ∃ W2, (W.alloc (.cells #[.int .i64 lim, .slice A L.length c] 27)).alloc (.cells #[.int .u64 m, .int .u64 b] 50) = W2 ∧ RefA W2 A c L ∧ Below W.heap.size W W2 ∧
    Blk W2 W.heap.size 27 #[.int .i64 lim, .slice A L.length c] ∧ Blk W2 (W.heap.size + 1) 50 #[.int .u64 m, .int .u64 b] ∧ W2.heap.size = W.heap.size + 2 := by
  have hb := ((Below.refl W.heap.size W).alloc (Nat.le_refl _) (.cells #[.int .i64 lim, .slice A L.length c] 27)).alloc (by simp) (.cells #[.int .u64 m, .int .u64 b] 50)
  exact ⟨_, rfl, h.below hb, hb, (Blk.new W 27 #[.int .i64 lim, .slice A L.length c]).up _, Blk.new_ (World.size_alloc W (.cells #[.int .i64 lim, .slice A L.length c] 27)) 50 #[.int .u64 m, .int .u64 b], by simp⟩
theorem cub_one {W w3 : World} {m b : Nat} (hb : Below W.heap.size W w3) : RetRC [(m, b)] W (.returned (.slice (some ⟨w3.heap.size, 0, none⟩) 1 1)) (w3.alloc (.cells #[.int .u64 (m : Int), .int .u64 (b : Int)] 50)) :=
  ⟨_, rfl, World.ownsRow_lit w3 #[.int .u64 (m : Int), .int .u64 (b : Int)] 1 hb.size (by unfold maxLen; omega) rfl, hb.alloc hb.size _⟩
section
variable {L : List Nd} {val : Int} {lim : Nat}
set_option maxRecDepth 100000 in
theorem cub_far {r : Int} (hr : ¬ (0 ≤ r ∧ r < (L.length : Int))) (m b : Nat) (W : World) (A : Option Addr) (c : Nat) (h : RefA W A c L) :
    Calls Try.prog 23 #[.agg #[.int .i64 lim, .slice A L.length c], .int .i64 r, .int .i64 val, .agg #[.int .u64 (m : Int), .int .u64 (b : Int)]] W (RetRC (if hasP L.length r = true then refC L val m b r else []) W) := by
  have hfew := h.2
  obtain ⟨W2, hW2, hA2, hb, k0, k1, hsz⟩ := cub_boxes (lim := lim) (m := (m : Int)) (b := (b : Int)) h
  have HRf := Lib.hid hA2
  have HB := Lib.hid hb
  have c0 : W2.cell? ⟨W.heap.size, 0, none⟩ = some (.int .i64 lim) := k0.cell 0
  have c1 : W2.cell? ⟨W.heap.size, 1, none⟩ = some (.slice A L.length c) := k0.cell 1
  have HK1 := Lib.hid k1
  have hs0 := k0.lt
  have hs1 := k1.lt
  have HV := Lib.hid (fun W => rvalue_any r W)
  obtain ⟨z, hz⟩ : ∃ z, valueP r = z := ⟨_, rfl⟩
  rw [refC_out hr, hz]
  rw [hz] at HV
  have HH0 : Hid (Calls Try.prog 34 #[.agg #[.int .i64 lim, .slice A L.length c], .int .i64 r] W2 (RetRB (.bool (hasP L.length r)) W2)) := Lib.hid (rhas_any HRf.out)
  have hr2 : r < 0 ∨ (0 ≤ r ∧ (L.length : Int) ≤ r) := by omega
  clear hz k0 k1 hb h hA2 hr
  obtain ⟨hh, hhe⟩ : ∃ hh, hasP L.length r = hh := ⟨_, rfl⟩
  rw [hhe] at HH0 ⊢
  clear hhe
  cases hh
  · rw [if_neg (by decide)]
    rcases hr2 with hr2 | ⟨hr2, hr3⟩
    · go_enter Try.func23, Try.ntmps23
      go_wp2_with (go_at_call 34; ((with_reducible refine HH0.out.mono ?_); rintro e w3 ⟨rfl, hb3⟩))
      go_ret
      exact ⟨_, rfl, World.ownsRow_nil _ _ _ _, HB.out.trans (hb3.mono HB.out.size)⟩
    · go_enter Try.func23, Try.ntmps23
      go_wp2_with (go_at_call 34; ((with_reducible refine HH0.out.mono ?_); rintro e w3 ⟨rfl, hb3⟩))
      go_ret
      exact ⟨_, rfl, World.ownsRow_nil _ _ _ _, HB.out.trans (hb3.mono HB.out.size)⟩
  · rw [if_pos rfl]
    by_cases hz : z = val
    · rw [if_pos hz]
      rcases hr2 with hr2 | ⟨hr2, hr3⟩
      · go_enter Try.func23, Try.ntmps23
        go_wp2_with (first
          | (go_at_call 34; ((with_reducible refine HH0.out.mono ?_); rintro e w3 ⟨rfl, hb3⟩); have HB3 := Lib.hid (HB.out.trans (hb3.mono HB.out.size)); have k3 := HK1.out.below hb3 HK1.out.lt; have d0 : w3.cell? ⟨W.heap.size + 1, 0, none⟩ = some (.int .u64 (m : Int)) := k3.cell 0; have d1 : w3.cell? ⟨W.heap.size + 1, 1, none⟩ = some (.int .u64 (b : Int)) := k3.cell 1; have d2 := k3.lt; clear hb3 k3)
          | (go_at_call 46; ((with_reducible refine (HV.out _).mono ?_); rintro e w4 ⟨rfl, rfl⟩)))
        go_ret
        exact cub_one HB3.out
      · go_enter Try.func23, Try.ntmps23
        go_wp2_with (first
          | (go_at_call 34; ((with_reducible refine HH0.out.mono ?_); rintro e w3 ⟨rfl, hb3⟩); have HB3 := Lib.hid (HB.out.trans (hb3.mono HB.out.size)); have k3 := HK1.out.below hb3 HK1.out.lt; have d0 : w3.cell? ⟨W.heap.size + 1, 0, none⟩ = some (.int .u64 (m : Int)) := k3.cell 0; have d1 : w3.cell? ⟨W.heap.size + 1, 1, none⟩ = some (.int .u64 (b : Int)) := k3.cell 1; have d2 := k3.lt; clear hb3 k3)
          | (go_at_call 46; ((with_reducible refine (HV.out _).mono ?_); rintro e w4 ⟨rfl, rfl⟩)))
        go_ret
        exact cub_one HB3.out
    · rw [if_neg hz]
      have hz' : (z == val) = false := by simpa using hz
      rcases hr2 with hr2 | ⟨hr2, hr3⟩
      · go_enter Try.func23, Try.ntmps23
        go_wp2_with (first
          | (go_at_call 34; ((with_reducible refine HH0.out.mono ?_); rintro e w3 ⟨rfl, hb3⟩); have HB3 := Lib.hid (HB.out.trans (hb3.mono HB.out.size)); have k3 := HK1.out.below hb3 HK1.out.lt; have d0 : w3.cell? ⟨W.heap.size + 1, 0, none⟩ = some (.int .u64 (m : Int)) := k3.cell 0; have d1 : w3.cell? ⟨W.heap.size + 1, 1, none⟩ = some (.int .u64 (b : Int)) := k3.cell 1; have d2 := k3.lt; clear hb3 k3)
          | (go_at_call 46; ((with_reducible refine (HV.out _).mono ?_); rintro e w4 ⟨rfl, rfl⟩)))
        go_ret
        exact ⟨_, rfl, World.ownsRow_nil _ _ _ _, HB3.out⟩
      · go_enter Try.func23, Try.ntmps23
        go_wp2_with (first
          | (go_at_call 34; ((with_reducible refine HH0.out.mono ?_); rintro e w3 ⟨rfl, hb3⟩); have HB3 := Lib.hid (HB.out.trans (hb3.mono HB.out.size)); have k3 := HK1.out.below hb3 HK1.out.lt; have d0 : w3.cell? ⟨W.heap.size + 1, 0, none⟩ = some (.int .u64 (m : Int)) := k3.cell 0; have d1 : w3.cell? ⟨W.heap.size + 1, 1, none⟩ = some (.int .u64 (b : Int)) := k3.cell 1; have d2 := k3.lt; clear hb3 k3)
          | (go_at_call 46; ((with_reducible refine (HV.out _).mono ?_); rintro e w4 ⟨rfl, rfl⟩)))
        go_ret
        exact ⟨_, rfl, World.ownsRow_nil _ _ _ _, HB3.out⟩
set_option maxRecDepth 100000 in
set_option maxHeartbeats 1600000 in
theorem cub_node (hR : RightL L) {k : Nat} {x : Nd} (hx : L[k]? = some x) (h2 : CubAt lim L val x.2.1) (h3 : CubAt lim L val x.2.2) : CubAt lim L val (k : Int) := by
  intro _ m b hm hb W A c h
  obtain ⟨x1, x2, x3⟩ := x
  obtain ⟨⟨v0, v1⟩, -, ⟨g2, l2⟩, g3, l3⟩ := hR.1 _ _ hx
  have hkl := get_len hx
  rw [varP_at hx] at hm hb
  dsimp only at h2 h3 v0 v1 g2 l2 g3 l3 hm hb
  obtain ⟨V, rfl⟩ : ∃ V : Nat, x1 = (V : Int) := ⟨x1.toNat, by omega⟩
  rw [Int.toNat_natCast] at hm hb
  rw [refC_node hR hx rfl]
  have hV12 : V < 12 := by omega
  have hp := pow_few hV12
  have HL2 := Lib.hid (h2 (hasP_mono (Nat.le_of_lt hkl) g2) (m + 2 ^ V) b (pow_up hm (by omega)) (by have := pow_up hb (show (V : Int) < varP L x2 by omega); omega))
  have HL3 := Lib.hid (h3 (hasP_mono (Nat.le_of_lt hkl) g3) (m + 2 ^ V) (b + 2 ^ V) (pow_up hm (by omega)) (pow_up hb (by omega)))
  have HC2 : Hid ((refC L val (m + 2 ^ V) b x2).length ≤ 4096) := Lib.hid (refC_len hR _ _ _ _)
  have HC3 : Hid ((refC L val (m + 2 ^ V) (b + 2 ^ V) x3).length ≤ 4096) := Lib.hid (refC_len hR _ _ _ _)
  rw [Int.natCast_add] at HL2 HL3
  rw [Int.natCast_add b] at HL3
  obtain ⟨C2, hC2⟩ : ∃ C, refC L val (m + 2 ^ V) b x2 = C := ⟨_, rfl⟩
  obtain ⟨C3, hC3⟩ : ∃ C, refC L val (m + 2 ^ V) (b + 2 ^ V) x3 = C := ⟨_, rfl⟩
  rw [hC2] at HL2 HC2 ⊢
  rw [hC3] at HL3 HC3 ⊢
  have hfew := h.2
  have hcap := h.cap
  obtain ⟨W2, hW2, hA2, hbw, k0, k1, hsz⟩ := cub_boxes (lim := lim) (m := (m : Int)) (b := (b : Int)) h
  obtain ⟨g, hA, hg, n0, n1, n2⟩ := hA2.node hx
  have HRf := Lib.hid hA2
  have HB := Lib.hid hbw
  have HK0 := Lib.hid k0
  have HK1 := Lib.hid k1
  have c0 : W2.cell? ⟨W.heap.size, 0, none⟩ = some (.int .i64 lim) := k0.cell 0
  have c1 : W2.cell? ⟨W.heap.size, 1, none⟩ = some (.slice A L.length c) := k0.cell 1
  have hs0 := k0.lt
  have hinfo : (Try.prog.info? 50).map (fun i => (i.zero, i.size, i.bytes)) = some (some (.agg #[.int .u64 0, .int .u64 0]), 2, 16) := by kernel_rfl
  obtain ⟨i0, hi, hz0, hz1, hz2⟩ := info_parts hinfo
  clear h2 h3 g2 g3 l2 l3 v0 v1 hC2 hC3 k0 k1 hbw hA2 h hx
  subst hA
  go_enter Try.func23, Try.ntmps23
  go_wp2_with fail
  have kn := Blk.new W2 73 #[.int .i64 (V : Int), .int .i64 x2, .int .i64 x3]
  have hbn := (Below.refl W2.heap.size W2).alloc (Nat.le_refl _) (.cells #[.int .i64 (V : Int), .int .i64 x2, .int .i64 x3] 73)
  obtain ⟨W3, hW3⟩ : ∃ W3, W2.alloc (.cells #[.int .i64 (V : Int), .int .i64 x2, .int .i64 x3] 73) = W3 := ⟨_, rfl⟩
  rw [hW3] at kn hbn ⊢
  have HRf3 := Lib.hid (HRf.out.below hbn)
  have HB3 := Lib.hid (HB.out.trans (hbn.mono HB.out.size))
  have k3 := HK0.out.below hbn HK0.out.lt
  have HKa := Lib.hid k3
  have d0 : W3.cell? ⟨W.heap.size, 0, none⟩ = some (.int .i64 lim) := k3.cell 0
  have d1 : W3.cell? ⟨W.heap.size, 1, none⟩ = some (.slice (some ⟨g, 0, none⟩) L.length c) := k3.cell 1
  have d2 := k3.lt
  have k3 := HK1.out.below hbn HK1.out.lt
  have HKb := Lib.hid k3
  have d3 : W3.cell? ⟨W.heap.size + 1, 0, none⟩ = some (.int .u64 (m : Int)) := k3.cell 0
  have d4 : W3.cell? ⟨W.heap.size + 1, 1, none⟩ = some (.int .u64 (b : Int)) := k3.cell 1
  have d5 := k3.lt
  rw [hsz] at kn
  have HKn := Lib.hid kn
  have d6 : W3.cell? ⟨W.heap.size + 2, 0, none⟩ = some (.int .i64 (V : Int)) := kn.cell 0
  have d7 : W3.cell? ⟨W.heap.size + 2, 1, none⟩ = some (.int .i64 x2) := kn.cell 1
  have d8 : W3.cell? ⟨W.heap.size + 2, 2, none⟩ = some (.int .i64 x3) := kn.cell 2
  have d9 := kn.lt
  have hm4 : m < 2048 := by omega
  have hb4 : b < 2048 := by omega
  clear k3 kn hbn hW3 c0 c1 hs0 n0 n1 n2 HK0 HK1 HB HRf hW2 hsz hg
  go_loop [10, 11] (fun t10 t11 => ∃ i : Nat, i ≤ V ∧ t11 = .int .i64 (i : Int) ∧ t10 = .int .u64 ((2 ^ i : Nat) : Int)) (fun _ t11 => V - (intOf t11).toNat)
  case atStart => exact ⟨0, Nat.zero_le _, rfl, rfl⟩
  case round =>
    obtain ⟨i, hiV, rfl, rfl⟩ := hrel
    have hpi := pow_few (show i < 12 by omega)
    obtain ⟨q, hq⟩ : ∃ q, 2 ^ i = q := ⟨_, rfl⟩
    rw [hq] at hpi ⊢
    by_cases hiv : i < V
    · have HQ := Lib.hid hq
      clear hq
      go_wp2_with fail
      go_round
      case rel => exact ⟨i + 1, by omega, by go_num, by rw [Nat.pow_succ, HQ.out]; simp⟩
      case measure => simp [intOf]; omega
    · have hie : i = V := by omega
      subst hie
      rw [hq] at HL2 HL3 hp hm hb
      have HBd : Hid (C2.length + C3.length ≤ maxLen ∧ (C2.length + C3.length) * 16 ≤ 140737488355328) := Lib.hid (by have := HC2.out; have := HC3.out; unfold maxLen; omega)
      clear hq hb hm hiv hiV hfew hcap k3
      go_wp2_with (first
        | (go_at_call 23; ((with_reducible refine (HL2.out _ _ _ HRf3.out).mono ?_); rintro e w4 ⟨v1, rfl, r1, hb1⟩); have HR4 := Lib.hid (row_up r1 HB3.out.size); have HB4 := Lib.hid (HB3.out.trans (hb1.mono HB3.out.size)); have HRf4 := Lib.hid (HRf3.out.below hb1); have ka := HKa.out.below hb1 HKa.out.lt; have kb := HKb.out.below hb1 HKb.out.lt; have kn := HKn.out.below hb1 HKn.out.lt; have f0 : w4.cell? ⟨W.heap.size, 0, none⟩ = some (.int .i64 lim) := ka.cell 0; have f1 : w4.cell? ⟨W.heap.size, 1, none⟩ = some (.slice (some ⟨g, 0, none⟩) L.length c) := ka.cell 1; have f2 := ka.lt; have f3 : w4.cell? ⟨W.heap.size + 1, 0, none⟩ = some (.int .u64 (m : Int)) := kb.cell 0; have f4 : w4.cell? ⟨W.heap.size + 1, 1, none⟩ = some (.int .u64 (b : Int)) := kb.cell 1; have f5 := kb.lt; have f8 : w4.cell? ⟨W.heap.size + 2, 2, none⟩ = some (.int .i64 x3) := kn.cell 2; have f9 := kn.lt; clear r1 hb1 ka kb kn)
        | (go_at_call 23; ((with_reducible refine (HL3.out _ _ _ HRf4.out).mono ?_); rintro e w5 ⟨v2, rfl, r2, hb2⟩); have HR5 := Lib.hid (And.intro (own_below HR4.out hb2) (rowAt_own r2)); have HB5 := Lib.hid (HB4.out.trans (hb2.mono HB4.out.size)); clear r2 hb2)
        | (at_builtin; refine wpList_append_rows rfl _ _ 47 rfl W.heap.size 50 i0 (.agg #[.int .u64 0, .int .u64 0]) 2 16 Try.underlying47 hi hz0 hz1 hz2 rfl (by decide) _ _ _ rfl HR5.out.1 _ _ _ rfl HR5.out.2 (cubeCells_len C3) (cubeCells_one C3) HBd.out.1 HBd.out.2 HB5.out.size ?_; intro v' w6 ho hg _; have HF := Lib.hid (show RetRC (C2 ++ C3) W (.returned v') w6 from ⟨v', rfl, by rw [List.length_append, cubeCells_add]; exact ho, HB5.out.grown hg HB5.out.size fun k hk => (HR5.out.1.lt k hk).1⟩); clear ho hg))
      go_ret
      exact HF.out
theorem rcubes_all (hR : RightL L) : ∀ r, CubAt lim L val r := by
  refine down hR (fun r hr hh m b _ _ W A c h => ?_) fun k x hx _ _ h2 h3 => cub_node hR hx h2 h3
  have := cub_far (lim := lim) (val := val) hr m b W A c h
  rw [if_pos hh] at this
  exact this
theorem rcubes_any {W : World} {A : Option Addr} {c : Nat} (h : RefA W A c L) (hR : RightL L) (val r : Int) : Calls Try.prog 23 #[.agg #[.int .i64 lim, .slice A L.length c], .int .i64 r, .int .i64 val, .agg #[.int .u64 0, .int .u64 0]] W (RetRC (cubesP L val r) W) := by
  unfold cubesP
  by_cases hh : hasP L.length r = true
  · rw [if_pos hh, ← refC_zero]
    exact rcubes_all hR r hh 0 0 (Nat.two_pow_pos _) (Nat.two_pow_pos _) W A c h
  · rw [if_neg hh]
    have hr : ¬ (0 ≤ r ∧ r < (L.length : Int)) := fun hr => hh (by rw [hasP_iff]; omega)
    have := cub_far (lim := lim) (val := val) hr 0 0 W A c h
    rw [if_neg hh] at this
    exact this
end
end Go.Proofs.Ytcolinjgfcjimaa
