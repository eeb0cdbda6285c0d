/- The contract of shift: a variable is moved on. -/
import Derived.Test.YtlddelnbjihhgaaGreatDoorForget
namespace Go.Proofs.YtlddelnbjihhgaaGreatDoor
open Go.RowKit
attribute [local go_sem ↓] Go.wp_at_zero Go.wp_at_succ

def Sf (w W : World) (a a' i c b b' : Value) : Prop := Duo W w.heap.size 32 a a' ∧ Boxed W (w.heap.size + 1) 3 i ∧ Boxed W (w.heap.size + 1 + 1) 3 c ∧ Duo W (w.heap.size + 1 + 1 + 1) 32 b b' ∧ Below w.heap.size w W
theorem Sf.below {w W W1 : World} {a a' i c b b' : Value} (h : Sf w W a a' i c b b') (hb : Below W.heap.size W W1) : Sf w W1 a a' i c b b' := ⟨h.1.below hb, boxed_below h.2.1 hb, boxed_below h.2.2.1 hb, h.2.2.2.1.below hb, h.2.2.2.2.trans (hb.mono h.2.2.2.2.size)⟩
theorem sf_new (w : World) (a a' i c b b' : Value) : Sf w ((((w.alloc (.cells #[a, a'] 32)).alloc (.cells #[i] 3)).alloc (.cells #[c] 3)).alloc (.cells #[b, b'] 32)) a a' i c b b' := by
  have h1 := Boxed.new (w.alloc (.cells #[a, a'] 32)) 3 i
  have h2 := Boxed.new ((w.alloc (.cells #[a, a'] 32)).alloc (.cells #[i] 3)) 3 c
  have h3 := Duo.new (((w.alloc (.cells #[a, a'] 32)).alloc (.cells #[i] 3)).alloc (.cells #[c] 3)) 32 b b'
  simp only [World.size_alloc] at h1 h2 h3
  exact ⟨(((Duo.new w _ _ _).alloc _).alloc _).alloc _, (h1.alloc _).alloc _, h2.alloc _, h3, ((((Below.refl _ w).alloc (Nat.le_refl _) _).alloc (by simp) _).alloc (by simp <;> omega) _).alloc (by simp <;> omega) _⟩

set_option maxRecDepth 100000 in
set_option maxHeartbeats 1600000 in
theorem shift_fn {m r c i0 : Nat} {x : Int} (hm7 : m ≤ 7) (hr : r < m) (hc : c < m) (hx : -2305843009213693952 ≤ x ∧ x ≤ 2305843009213693952) {p q s g c1 base : Nat} {C : Mat} {W : World} (hbd : -2305843009213693952 ≤ C r c ∧ C r c ≤ 2305843009213693952) (hi : Boxed W q 3 (.int .i64 (i0 : Int))) (hs : Boxed W s 3 (.int .i64 x)) (h1 : Duo W p 32 (.int .i64 ((m : Int) - 1)) (.slice (some ⟨g, 0, none⟩) (m * m) c1))
    (o1 : W.ownsRow base 3 1 (.slice (some ⟨g, 0, none⟩) (m * m) c1) (m * m) ((flatL m C).map (Value.int .i64))) :
    Calls Tryz.prog 84 #[.int .i64 (r : Int), .int .i64 (c : Int), .pointer (some ⟨p, 0, none⟩), .pointer (some ⟨q, 0, none⟩), .pointer (some ⟨s, 0, none⟩)] W (ZRetInt (shf C i0 x r c) W) := by
  have HA := Lib.hid (at_own hm7 hr hc o1)
  have hsh : shf C i0 x r c = C r c + (if r = i0 then x else 0) - (if c = i0 then x else 0) := rfl
  rw [hsh]
  clear hsh
  obtain ⟨y, hy⟩ : ∃ y, C r c = y := ⟨_, rfl⟩
  rw [hy] at HA hbd ⊢
  have x0 := hi.cell
  have x1 := hi.lt
  have x2 := hs.cell
  have x3 := hs.lt
  have x4 := h1.cell0
  have x5 := h1.cell1
  have x6 := h1.lt
  have HB := Lib.hid (fun (W1 : World) (hb : Below W.heap.size W W1) => And.intro ((boxed_below hi hb).cell) (And.intro ((boxed_below hi hb).lt) (And.intro ((boxed_below hs hb).cell) ((boxed_below hs hb).lt))))
  have w1 : IntKind.i64.wrap (y + x) = y + x := IntWalk.i64_in _ (by omega)
  have w2 : IntKind.i64.wrap (y - x) = y - x := IntWalk.i64_in _ (by omega)
  have w3 : IntKind.i64.wrap y = y := IntWalk.i64_in _ (by omega)
  have HC : Hid (y + x - x = y ∧ y + 0 - 0 = y ∧ y + x - 0 = y + x ∧ y + 0 - x = y - x) := Lib.hid (by omega)
  clear hy o1 hi hs h1 hbd hx
  by_cases e1 : r = i0
  · rw [if_pos e1]
    have b1 : ((r : Int) == (i0 : Int)) = true := by simp; omega
    by_cases e2 : c = i0
    · rw [if_pos e2]
      have b2 : ((c : Int) == (i0 : Int)) = true := by simp; omega
      rw [HC.out.1]
      clear e1 e2
      go_enter Tryz.func84, Tryz.ntmps84
      go_wp2_with (go_at_call 40; ((with_reducible refine HA.out.mono ?_); rintro e w1 ⟨rfl, hb1⟩); obtain ⟨z0, z1, z2, z3⟩ := HB.out _ hb1)
      go_ret
      exact ⟨rfl, hb1⟩
    · rw [if_neg e2]
      have b2 : ((c : Int) == (i0 : Int)) = false := by simp; omega
      rw [HC.out.2.2.1]
      clear e1 e2
      go_enter Tryz.func84, Tryz.ntmps84
      go_wp2_with (go_at_call 40; ((with_reducible refine HA.out.mono ?_); rintro e w1 ⟨rfl, hb1⟩); obtain ⟨z0, z1, z2, z3⟩ := HB.out _ hb1)
      go_ret
      exact ⟨rfl, hb1⟩
  · rw [if_neg e1]
    have b1 : ((r : Int) == (i0 : Int)) = false := by simp; omega
    by_cases e2 : c = i0
    · rw [if_pos e2]
      have b2 : ((c : Int) == (i0 : Int)) = true := by simp; omega
      rw [HC.out.2.2.2]
      clear e1 e2
      go_enter Tryz.func84, Tryz.ntmps84
      go_wp2_with (go_at_call 40; ((with_reducible refine HA.out.mono ?_); rintro e w1 ⟨rfl, hb1⟩); obtain ⟨z0, z1, z2, z3⟩ := HB.out _ hb1)
      go_ret
      exact ⟨rfl, hb1⟩
    · rw [if_neg e2]
      have b2 : ((c : Int) == (i0 : Int)) = false := by simp; omega
      rw [HC.out.2.1]
      clear e1 e2
      go_enter Tryz.func84, Tryz.ntmps84
      go_wp2_with (go_at_call 40; ((with_reducible refine HA.out.mono ?_); rintro e w1 ⟨rfl, hb1⟩); obtain ⟨z0, z1, z2, z3⟩ := HB.out _ hb1)
      go_ret
      exact ⟨rfl, hb1⟩

set_option maxRecDepth 100000 in
set_option maxHeartbeats 3200000 in
theorem shift_any {w : World} {A : Option Addr} {cz m i0 base : Nat} {x : Int} {C : Mat} (h0 : 0 < m) (h7 : m ≤ 7) (hx : -2305843009213693952 ≤ x ∧ x ≤ 2305843009213693952) (hz : ZRes w base m (some C) (zoneV ((m : Int) - 1) A (m * m) cz)) :
    Calls Tryz.prog 44 #[zoneV ((m : Int) - 1) A (m * m) cz, .int .i64 (i0 : Int), .int .i64 x] w (RetC w m (setR m (shf C i0 x))) := by
  obtain ⟨g1, rfl, hC, o1⟩ := zres_some hz
  have HT := Lib.hid (sf_new w (.int .i64 ((m : Int) - 1)) (.slice (some ⟨g1, 0, none⟩) (m * m) cz) (.int .i64 (i0 : Int)) (.int .i64 x) (.int .i64 0) (.slice none 0 0))
  have O1 := Lib.hid (own_kept_below o1 HT.out.2.2.2.2)
  have HC := Lib.hid hC
  have HX := Lib.hid hx
  have c0 := HT.out.1.cell0
  have c1 := HT.out.1.cell1
  clear o1 hC hz hx
  go_enter Tryz.func44, Tryz.ntmps44
  go_wp2_with fail
  refine (fill_any 84 #[.pointer (some ⟨w.heap.size, 0, none⟩), .pointer (some ⟨w.heap.size + 1, 0, none⟩), .pointer (some ⟨w.heap.size + 1 + 1, 0, none⟩)] m h7 h0 (shf C i0 x) _ (enters_of Tryz.func84 (by kernel_rfl) rfl) (fun r c W hr hc hbW => ?_)).mono ?_
  · have hF5 := HT.out.below hbW
    exact shift_fn h7 hr hc HX.out (HC.out.bd hr hc) hF5.2.1 hF5.2.2.1 hF5.1 (own_kept_below O1.out hbW)
  rintro e w5 ⟨v5, rfl, ho5, hb5⟩
  obtain ⟨g5, c5, rfl⟩ := own_slice ho5 (Nat.mul_pos h0 h0)
  have hF5 := HT.out.below hb5
  have hg5 := (ho5.lt g5 rfl).1
  have hs4 := HT.out.2.2.2.1.lt
  have ho5' := own_lower ho5 HT.out.2.2.2.2.size
  have HF5 := Lib.hid hF5
  have HO5 := Lib.hid ho5'
  clear ho5 ho5' hb5 hF5 c0 c1
  go_wp2_with fail
  refine (settle_any m h7 h0 (shf C i0 x) g5 c5 _ w5 (fun a b ha hb => by have h1 := HC.out.bd ha hb; have h2 := HX.out; unfold shf; split <;> split <;> omega) HO5.out).mono ?_
  rintro e w6 (⟨ha, rfl, ho6, hg6⟩ | ⟨hna, rfl, hg6⟩)
  · have hD3 := HF5.out.2.2.2.1.kept hg6 (by simp; omega)
    have hB3 := HF5.out.2.2.2.2.grown hg6 HF5.out.2.2.2.2.size (fun r e => by cases e; omega)
    have d0 := hD3.cell0
    have d1 := hD3.cell1
    have f0 := hD3.frozen0
    have f1 := hD3.frozen1
    have HO6 := Lib.hid ho6
    have HB3 := Lib.hid hB3
    clear ho6 hB3 hg6
    go_wp2_with fail
    refine post_cell (rb := w.heap.size + 1 + 1 + 1) Tryz.results44 rfl rfl ((hD3.set0 _).set1 _) ?_
    rw [setR_yes ha]
    refine ⟨_, c5, rfl, ⟨lev_closed ha, g5, c5, rfl, ?_⟩, (HB3.out.setCell (p := ⟨w.heap.size + 1 + 1 + 1, 0, none⟩) (by simp <;> omega) _).setCell (p := ⟨w.heap.size + 1 + 1 + 1, 1, none⟩) (by simp <;> omega) _⟩
    exact (HO6.out.kept (duo_grown_setCell _ _ _) (.inr (by simp [Value.ownBlock]; omega))).kept (duo_grown_setCell _ _ _) (.inr (by simp [Value.ownBlock]; omega))
  · have hD3 := HF5.out.2.2.2.1.kept hg6 (by simp; omega)
    have hB3 := HF5.out.2.2.2.2.grown hg6 HF5.out.2.2.2.2.size (fun r e => by cases e; omega)
    have d0 := hD3.cell0
    have d1 := hD3.cell1
    have f0 := hD3.frozen0
    have f1 := hD3.frozen1
    have HB3 := Lib.hid hB3
    clear hB3 hg6
    go_wp2_with fail
    refine post_cell (rb := w.heap.size + 1 + 1 + 1) Tryz.results44 rfl rfl ((hD3.set0 _).set1 _) ?_
    rw [setR_no hna]
    exact ⟨none, 0, rfl, rfl, (HB3.out.setCell (p := ⟨w.heap.size + 1 + 1 + 1, 0, none⟩) (by simp <;> omega) _).setCell (p := ⟨w.heap.size + 1 + 1 + 1, 1, none⟩) (by simp <;> omega) _⟩
end Go.Proofs.YtlddelnbjihhgaaGreatDoor
