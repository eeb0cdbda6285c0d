/- The contract of 'alive': three nodes, of which two are needed. -/
import Derived.Test.YtlddelnbjihhgaaDoorSComp
import Derived.Test.YtlddelnbjihhgaaDoorCBuild
import Derived.Test.YtlddelnbjihhgaaDoorSIs
namespace Go.Proofs.YtlddelnbjihhgaaDoor
open Go.RowKit
attribute [local go_sem ↓] Go.wp_at_zero Go.wp_at_succ

def AL : List Nd := [(2, -1, -2), (3, -1, -4), (0, -1, 0)]
def BL : List Nd := [(2, -1, -2), (0, -1, 0)]
def aliveF : Nat → Nd := fun i => if i = 0 then (2, -1, -2) else if i = 1 then (3, -1, -4) else (0, -1, 0)
theorem al_scr : scr 60 [] aliveF 3 = AL := by decide +kernel
theorem al_cmp : cmpP 9 AL (fun _ => 2) 1 = (BL, [1], 0) := by decide +kernel
theorem al_mv : mvP 1 AL 2 [] = ([(2, -1, -2)], 0, 50) := by decide +kernel
theorem al_has : hasP AL.length 2 = true := by decide +kernel
theorem al_not : hasP AL.length 7 = false := by decide +kernel
theorem al_m0 : marksB AL (fun _ => 2) 1 0 = true := by decide +kernel
theorem al_m1 : marksB AL (fun _ => 2) 1 1 = false := by decide +kernel
theorem al_dead : deadN (marksB AL (fun _ => 2) 1) AL.length = 1 := by decide +kernel
section
variable {w W : World} {p : Nat}
theorem al_build (w : World) : Calls Tryd.prog 25 #[.slice (some ⟨w.heap.size, 0, none⟩) 3 3] (w.alloc (.cells #[.int .i64 2, .int .i64 (-1), .int .i64 (-2), .int .i64 3, .int .i64 (-1), .int .i64 (-4), .int .i64 0, .int .i64 (-1), .int .i64 0] 92))
    fun e w' => ∃ p A c, e = .returned (.tuple #[.pointer (some ⟨p, 0, none⟩), .agg #[.int .i64 60, .slice A 3 c], .bool true]) ∧ Liv w p 60 AL w' := by
  have hk := Blk.new w 92 #[.int .i64 2, .int .i64 (-1), .int .i64 (-2), .int .i64 3, .int .i64 (-1), .int .i64 (-4), .int .i64 0, .int .i64 (-1), .int .i64 0]
  have hO : Ops (w.alloc (.cells #[.int .i64 2, .int .i64 (-1), .int .i64 (-2), .int .i64 3, .int .i64 (-1), .int .i64 (-4), .int .i64 0, .int .i64 (-1), .int .i64 0] 92)) (some ⟨w.heap.size, 0, none⟩) 3 aliveF := fun _ => by
    refine ⟨_, _, rfl, hk.lt, fun j hj => ?_⟩
    match j, hj with
    | 0, _ => exact ⟨hk.cell 0, hk.cell 1, hk.cell 2⟩
    | 1, _ => exact ⟨hk.cell 3, hk.cell 4, hk.cell 5⟩
    | 2, _ => exact ⟨hk.cell 6, hk.cell 7, hk.cell 8⟩
  refine (build_any (c := 3) (by omega) _ hO).mono fun _ _ ⟨p, rb, A, c, he, hB⟩ => ?_
  rw [al_scr] at he hB
  obtain ⟨own, h1, h2, h3, -⟩ := hB
  have hb := (Below.refl w.heap.size w).alloc (Nat.le_refl _) (.cells #[.int .i64 2, .int .i64 (-1), .int .i64 (-2), .int .i64 3, .int .i64 (-1), .int .i64 (-4), .int .i64 0, .int .i64 (-1), .int .i64 0] 92)
  exact ⟨p, A, c, he, own, h1, fun i hi => Nat.le_trans hb.size (h2 i hi), hb.trans (h3.mono hb.size)⟩
/-- The roots of a call: one number, in a block that is new. -/
theorem one_ints (W : World) (x : Int) : Ints (W.alloc (.cells #[.int .i64 x] 3)) (some ⟨W.heap.size, 0, none⟩) 1 fun _ => x := fun _ => by
  have hk := Blk.new W 3 #[.int .i64 x]
  refine ⟨_, 0, rfl, hk.lt, fun j hj => ?_⟩
  match j, hj with
  | 0, _ => exact hk.cell 0
theorem up_below (W : World) (x : Int) : Below W.heap.size W (W.alloc (.cells #[.int .i64 x] 3)) := (Below.refl W.heap.size W).alloc (Nat.le_refl _) _
theorem al_comp {n : Nat} (hn : W.heap.size = n) (h : Liv w p 60 AL W) : Calls Tryd.prog 27 #[.pointer (some ⟨p, 0, none⟩), .slice (some ⟨n, 0, none⟩) 1 1, .int .i64 9] (W.alloc (.cells #[.int .i64 2] 3))
    fun e w' => ∃ q rg, e = .returned (.tuple #[.pointer (some ⟨q, 0, none⟩), .slice (some ⟨rg, 0, none⟩) 1 1, .nilIface]) ∧ Below W.heap.size W w' ∧ (∃ own : Nat → Prop, Arena w' own q 9 BL) ∧ Blk w' rg 3 (intsR 1 [1]) := by
  subst hn
  have hb := up_below W 2
  obtain ⟨own, h1, -⟩ := h.below hb
  refine (comp_yes (c := 1) h1 (one_ints W 2) (by omega) (by decide) (fun j _ => al_has) (l := 9) (by omega) rfl).mono fun e w' hr => ?_
  rw [show (9 : Int).toNat = 9 from rfl, al_cmp] at hr
  rcases hr with ⟨-, q, rg, he, hb2, own2, k1, -, k2, -⟩ | ⟨h0, -⟩
  · exact ⟨q, rg, he, hb.trans (hb2.mono hb.size), ⟨own2, k1⟩, k2⟩
  · exact absurd rfl h0
theorem al_mark (h : Liv w p 60 AL W) : Calls Tryd.prog 66 #[.pointer (some ⟨p, 0, none⟩), .slice (some ⟨W.heap.size, 0, none⟩) 1 1] (W.alloc (.cells #[.int .i64 2] 3))
    fun e w' => ∃ g, e = .returned (.slice (some ⟨g, 0, none⟩) 3 3) ∧ Below W.heap.size W w' ∧ Blk w' g 4 (boolsA 3 (marksB AL (fun _ => 2) 1)) := by
  have hb := up_below W 2
  obtain ⟨own, h1, -⟩ := h.below hb
  exact (marks_any (c := 1) h1 (one_ints W 2) (by omega)).mono fun e w' ⟨g, he, hr, _, hb2⟩ => ⟨g, he, hb.trans (hb2.mono hb.size), hr⟩
theorem al_comp7 (h : Liv w p 60 AL W) : Calls Tryd.prog 27 #[.pointer (some ⟨p, 0, none⟩), .slice (some ⟨W.heap.size, 0, none⟩) 1 1, .int .i64 9] (W.alloc (.cells #[.int .i64 7] 3))
    (RetW (.tuple #[.pointer none, .slice none 0 0, .iface 53 (.int .i64 1)]) (W.alloc (.cells #[.int .i64 7] 3))) := by
  obtain ⟨own, h1, -⟩ := h.below (up_below W 7)
  exact comp_no (c := 1) (i0 := 0) h1 (one_ints W 7) (by omega) (by omega) al_not (fun j hj => absurd hj (Nat.not_lt_zero _)) 9
theorem al_new (w : World) : Calls Tryd.prog 62 #[.int .i64 1] w (RetNew 1 w) := new_any 1 (by omega) w
theorem al_move {w1 : World} {n : Nat} (hn : W.heap.size = n) (h : Liv w p 60 AL W) (hT : Arena w1 (fun i => i = W.heap.size) W.heap.size 1 []) (hb : Below W.heap.size W w1) : Calls Tryd.prog 31 #[.pointer (some ⟨p, 0, none⟩), .pointer (some ⟨n, 0, none⟩), .int .i64 2] w1
    fun e w' => ∃ b v, e = .returned (.tuple #[.int .i64 0, .iface 165 (.pointer (some ⟨b, 0, none⟩))]) ∧ Below W.heap.size W w' ∧ Blk w' b 167 #[.string ⟨#[109, 107]⟩, .int .i64 v, .iface 53 (.int .i64 50)] := by
  subst hn
  obtain ⟨own, h1, -, -⟩ := h
  refine (move_yes (h1.below hb) hT (fun i hi e => by have := h1.old i hi; omega) (by decide) al_has).mono fun e w' ⟨M1, y, c, hm, ho, hr⟩ => ?_
  rw [al_mv] at hm
  simp only [Prod.mk.injEq] at hm
  obtain ⟨rfl, rfl, rfl⟩ := hm
  rcases hr with ⟨h0, -⟩ | ⟨-, b, v, he, hk⟩
  · exact absurd h0 (by decide)
  · exact ⟨b, v, he, hb.trans (ho.below hb.size fun i hi => Nat.le_of_eq hi.symm), hk⟩
theorem al_deads (h : Liv w p 60 AL W) : Calls Tryd.prog 68 #[.pointer (some ⟨p, 0, none⟩), .slice (some ⟨W.heap.size, 0, none⟩) 1 1] (W.alloc (.cells #[.int .i64 2] 3))
    fun e w' => e = .returned (.int .i64 1) ∧ Below W.heap.size W w' := by
  have hb := up_below W 2
  obtain ⟨own, h1, -⟩ := h.below hb
  refine (dead_any (c := 1) h1 (one_ints W 2) (by omega)).mono fun e w' ⟨he, hb2⟩ => ⟨?_, hb.trans (hb2.mono hb.size)⟩
  rw [he, al_dead]
  rfl
end
set_option maxRecDepth 100000 in
set_option maxHeartbeats 3200000 in
theorem alive_any (w : World) : Calls Tryd.prog 26 #[] w fun e w' => e = .returned (.bool true) ∧ Below w.heap.size w w' := by
  have ee : ∀ b w, (binOp .neq 43 (.pointer (some ⟨b, 0, none⟩)) (.pointer none)).run Tryd.prog w = .ok (.bool true) w := fun _ _ => by kernel_rfl
  go_enter Tryd.func26, Tryd.ntmps26
  go_wp2_with (first
    | (go_at_call 25; ((with_reducible refine (al_build w).mono ?_); rintro e w1 ⟨p, A, c, rfl, h1⟩); have H1 := Lib.hid (h1.below ((Below.refl _ _).alloc (Nat.le_refl _) (.cells #[.int .i64 60, .slice A 3 c] 46))); clear h1)
    | (go_at_call 27; ((with_reducible refine (al_comp (size_up rfl _) H1.out).mono ?_); rintro e w2 ⟨q, rg, rfl, hb2, ⟨ownB, hB2⟩, hr2⟩); have H2 := Lib.hid (H1.out.below hb2); have B2 := Lib.hid hB2; have R2 := Lib.hid hr2; clear hb2 hB2 hr2)
    | (go_at_call 66; ((with_reducible refine (al_mark H2.out).mono ?_); rintro e w3 ⟨g, rfl, hb3, hk3⟩); have H3 := Lib.hid (H2.out.below hb3); have B3 := Lib.hid (B2.out.below hb3); have R3 := Lib.hid (R2.out.below hb3 R2.out.lt); have K3 := Lib.hid hk3; clear hb3 hk3)
    | (go_at_call 27; ((with_reducible refine (al_comp7 H3.out).mono ?_); rintro e w9 ⟨rfl, rfl⟩); have H4 := Lib.hid (H3.out.below (up_below w3 7)); have B4 := Lib.hid (B3.out.below (up_below w3 7)); have R4 := Lib.hid (R3.out.below (up_below w3 7) R3.out.lt); have K4 := Lib.hid (K3.out.below (up_below w3 7) K3.out.lt))
    | (go_at_call 62; ((with_reducible refine (al_new _).mono ?_); rintro e w5 ⟨rfl, hA5, hb5⟩); have HA5 := Lib.hid hA5; have HB5 := Lib.hid hb5; clear hA5 hb5)
    | (go_at_call 31; ((with_reducible refine (al_move (size_up rfl _) H4.out HA5.out HB5.out).mono ?_); rintro e w6 ⟨b6, v6, rfl, hb6, hk6⟩); have H6 := Lib.hid (H4.out.below hb6); have B6 := Lib.hid (B4.out.below hb6); have l0 : w6.cell? ⟨rg, 0, none⟩ = some (.int .i64 1) := (R4.out.below hb6 R4.out.lt).cell 0; have m0 : w6.cell? ⟨g, 0, none⟩ = some (.bool true) := ((K4.out.below hb6 K4.out.lt).cell 0).trans (by rw [boolsA_at _ (by omega), al_m0]); have m1 : w6.cell? ⟨g, 1, none⟩ = some (.bool false) := ((K4.out.below hb6 K4.out.lt).cell 1).trans (by rw [boolsA_at _ (by omega), al_m1]); have F6 := Lib.hid hk6; clear hb6 hk6)
    | (go_at_call 67; ((with_reducible refine (arena_len B6.out).mono ?_); rintro e w9 ⟨rfl, rfl⟩))
    | (go_at_call 68; ((with_reducible refine (al_deads H6.out).mono ?_); rintro e w7 ⟨rfl, hb7⟩); have H7 := Lib.hid (H6.out.below hb7); have F7 := Lib.hid (F6.out.below hb7 F6.out.lt); clear hb7)
    | (go_at_call 33; ((with_reducible refine (is_self 1 _).mono ?_); rintro e w9 ⟨rfl, rfl⟩))
    | (go_at_call 33; ((with_reducible refine (is_errno b6 50 _ (F7.out.cell 2)).mono ?_); rintro e w9 ⟨rfl, rfl⟩)))
  all_goals go_ret
  all_goals exact ⟨rfl, H7.out.low⟩
end Go.Proofs.YtlddelnbjihhgaaDoor
