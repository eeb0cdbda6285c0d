/- The leaf layer: Find. -/
import Derived.Test.YtlkbapcienjdcaaDoorLHold
namespace Go.Proofs.YtlkbapcienjdcaaDoor
open Go.RowKit
attribute [local go_sem ↓] Go.wp_at_zero Go.wp_at_succ
section
variable {W : World} {B p bm m lim lz cz : Nat} {v : Value} {Az : Option Addr} {R : Option Mat} {L : List Lz} {N : Int}
/-- While Find goes. -/
structure FB (W0 : World) (B p bm : Nat) (v : Value) (m lim : Nat) (L : List Lz) (b : Nat) (N : Int) (Az : Option Addr) (lz cz : Nat) (W : World) : Prop where
  t : LTab B p bm v m lim L L W
  z : Duo W b 39 (.int .i64 N) (.slice Az lz cz)
  low : Below W0.heap.size W0 W
theorem FB.below {W0 W1 : World} {b : Nat} (h : FB W0 B p bm v m lim L b N Az lz cz W) (hb : Below W.heap.size W W1) : FB W0 B p bm v m lim L b N Az lz cz W1 := ⟨h.t.below hb, h.z.below hb, h.low.trans (hb.mono h.low.size)⟩
theorem FB.s {W0 : World} {b : Nat} (h : FB W0 B p bm v m lim L b N Az lz cz W) : (W.cell? ⟨b, 0, none⟩ = some (.int .i64 N) ∧ W.cell? ⟨b, 1, none⟩ = some (.slice Az lz cz)) ∧ W.cell? ⟨p, 0, none⟩ = some (.int .i64 ((m : Int) - 1)) ∧ W.cell? ⟨p, 3, none⟩ = some (.map (some bm)) := ⟨⟨h.z.cell0, h.z.cell1⟩, h.t.tb.cell 0, h.t.tb.cell 3⟩
/-- What Find tells. -/
def RetF (m : Nat) (L : List Lz) (R : Option Mat) (w : World) (e : Ending) (w' : World) : Prop := ∃ c : Int, e = .returned (.tuple #[.int .i64 c, .bool (idx m L (textZ m R)).isSome]) ∧ (∀ x, idx m L (textZ m R) = some x → c = x) ∧ Below w.heap.size w w'
set_option maxRecDepth 100000 in
set_option maxHeartbeats 6400000 in
theorem find_in (h0 : 0 < m) (h7 : m ≤ 7) (h : LTab B p bm v m lim L L W) (hR : ∀ C, R = some C → Closed m C) (ht : Tabs W)
    (K : ∀ W1, Below W.heap.size W W1 → Calls Tryd.prog 32 #[zoneV ((m : Int) - 1) Az lz cz] W1 (RetC W1 m R)) :
    Calls Tryd.prog 12 #[.pointer (some ⟨p, 0, none⟩), zoneV ((m : Int) - 1) Az lz cz] W (RetF m L R W) := by
  have b1 := zboxed W (.cells #[.int .i64 ((m : Int) - 1), .slice Az lz cz] 39)
  have hX : FB W B p bm v m lim L W.heap.size ((m : Int) - 1) Az lz cz (W.alloc (.cells #[.int .i64 ((m : Int) - 1), .slice Az lz cz] 39)) := ⟨h.below b1, Duo.new W _ _ _, b1⟩
  have HTx : Hid (∀ W', Below W.heap.size W W' → Calls Tryd.prog 28 #[zoneV ((m : Int) - 1) Az lz cz] W' (RetTx (textZ m R) W')) := Lib.hid fun W' hb => text_any h0 h7 hR (ht.stays hb) (fun W1 hb1 => K W1 (hb.trans (hb1.mono hb.size)))
  have HKl : Hid ((textZ m R).length ≤ maxLen) := Lib.hid (by have := textZ_len h0 h7 hR; unfold maxLen; omega)
  have X0 := Lib.hid (hX.below (Below.refl _ _).drew)
  clear h hR ht K b1 hX h0 h7
  go_enter Tryd.func12, Tryd.ntmps12
  go_wp2_with fail
  refine wp_region_held_drew (S := fun w' => (w'.cell? ⟨W.heap.size, 0, none⟩ = some (.int .i64 ((m : Int) - 1)) ∧ w'.cell? ⟨W.heap.size, 1, none⟩ = some (.slice Az lz cz)) ∧ w'.cell? ⟨p, 0, none⟩ = some (.int .i64 ((m : Int) - 1)) ∧ w'.cell? ⟨p, 3, none⟩ = some (.map (some bm))) (by kernel_rfl) X0.out.s (fun h0 => ?_)
  refine wpAnyH_take (i := 0) (oi := ⟨some 8, _, _, _, _, _⟩) (v := ?_) rfl (by kernel_rfl) (by kernel_rfl) (by kernel_rfl) (fun _ _ _ h => h) (Or.inl ⟨by rfl, ?_⟩) h0 ?_
  rotate_left
  · intro w hSw
    try dsimp only at hSw
    go_simp
    try with_reducible rfl
  try simp only [Act.put, List.setIfInBounds_toArray, List.set_cons_zero, List.set_cons_succ]
  refine wpAnyH_take (i := 1) (oi := ⟨some 9, _, _, _, _, _⟩) (v := ?_) rfl (by kernel_rfl) (by kernel_rfl) (by kernel_rfl) (fun _ _ _ h => h) (Or.inl ⟨by rfl, ?_⟩) h0 ?_
  rotate_left
  · intro w hSw
    try dsimp only at hSw
    go_simp
    try with_reducible rfl
  try simp only [Act.put, List.setIfInBounds_toArray, List.set_cons_zero, List.set_cons_succ]
  refine wpAnyH_take (i := 2) (oi := ⟨some 10, _, _, _, _, _⟩) (v := ?_) rfl (by kernel_rfl) (by kernel_rfl) (by kernel_rfl) (fun _ _ _ h => h) (Or.inl ⟨by rfl, ?_⟩) h0 ?_
  rotate_left
  · intro w hSw
    try dsimp only at hSw
    go_simp
    try with_reducible rfl
  try simp only [Act.put, List.setIfInBounds_toArray, List.set_cons_zero, List.set_cons_succ]
  refine wpAnyH_take (i := 3) (oi := ⟨some 11, _, _, _, _, _⟩) (v := ?_) rfl (by kernel_rfl) (by kernel_rfl) (by kernel_rfl) (fun _ _ _ h => h) (Or.inl ⟨by rfl, ?_⟩) h0 ?_
  rotate_left
  · intro w hSw
    try dsimp only at hSw
    go_simp
    try with_reducible rfl
  try simp only [Act.put, List.setIfInBounds_toArray, List.set_cons_zero, List.set_cons_succ]
  refine wpAnyH_take (i := 4) (oi := ⟨some 12, _, _, _, _, _⟩) (v := ?_) rfl (by kernel_rfl) (by kernel_rfl) (by kernel_rfl) (fun _ _ _ h => h) (Or.inl ⟨by rfl, ?_⟩) h0 ?_
  rotate_left
  · intro w hSw
    try dsimp only at hSw
    go_simp
    try with_reducible rfl
  try simp only [Act.put, List.setIfInBounds_toArray, List.set_cons_zero, List.set_cons_succ]
  refine wpAnyH_take (i := 5) (oi := ⟨some 13, _, _, _, _, _⟩) (v := ?_) rfl (by kernel_rfl) (by kernel_rfl) (by kernel_rfl) (fun _ _ _ h => h) (Or.inl ⟨by rfl, ?_⟩) h0 ?_
  rotate_left
  · intro w hSw
    try dsimp only at hSw
    go_simp
    try with_reducible rfl
  try simp only [Act.put, List.setIfInBounds_toArray, List.set_cons_zero, List.set_cons_succ]
  refine wpAnyH_take (i := 6) (oi := ⟨some 14, _, _, _, _, _⟩) (v := ?_) rfl (by kernel_rfl) (by kernel_rfl) (by kernel_rfl) (fun _ _ _ h => h) (Or.inl ⟨by rfl, ?_⟩) h0 ?_
  rotate_left
  · intro w hSw
    try dsimp only at hSw
    go_simp
    try with_reducible rfl
  try simp only [Act.put, List.setIfInBounds_toArray, List.set_cons_zero, List.set_cons_succ]
  refine wpAnyH_done (by kernel_rfl) ?_ _
  go_wp2_with fail
  have Y0 := Lib.hid (X0.out.below (Below.refl _ _).drew)
  refine wp_region_held_drew (S := fun w' => (w'.cell? ⟨W.heap.size, 0, none⟩ = some (.int .i64 ((m : Int) - 1)) ∧ w'.cell? ⟨W.heap.size, 1, none⟩ = some (.slice Az lz cz)) ∧ w'.cell? ⟨p, 0, none⟩ = some (.int .i64 ((m : Int) - 1)) ∧ w'.cell? ⟨p, 3, none⟩ = some (.map (some bm))) (by kernel_rfl) Y0.out.s (fun k0 => ?_)
  refine wpAnyH_take (i := 0) (oi := ⟨some 16, _, _, _, _, _⟩) (v := ?_) rfl (by kernel_rfl) (by kernel_rfl) (by kernel_rfl) (fun _ _ _ h => h) (Or.inl ⟨by rfl, ?_⟩) k0 ?_
  rotate_left
  · intro w hSw
    try dsimp only at hSw
    go_simp
    try with_reducible rfl
  try simp only [Act.put, List.setIfInBounds_toArray, List.set_cons_zero, List.set_cons_succ]
  refine wpAnyH_take (i := 1) (oi := ⟨some 17, _, _, _, _, _⟩) (v := ?_) rfl (by kernel_rfl) (by kernel_rfl) (by kernel_rfl) (fun _ _ _ h => h) (Or.inl ⟨by rfl, ?_⟩) k0 ?_
  rotate_left
  · intro w hSw
    try dsimp only at hSw
    go_simp
    try with_reducible rfl
  try simp only [Act.put, List.setIfInBounds_toArray, List.set_cons_zero, List.set_cons_succ]
  refine wpAnyH_take (i := 2) (oi := ⟨some 18, _, _, _, _, _⟩) (v := ?_) rfl (by kernel_rfl) (by kernel_rfl) (by kernel_rfl) (fun _ _ _ h => h) (Or.inl ⟨by rfl, ?_⟩) k0 ?_
  rotate_left
  · intro w hSw
    try dsimp only at hSw
    go_simp
    try with_reducible rfl
  try simp only [Act.put, List.setIfInBounds_toArray, List.set_cons_zero, List.set_cons_succ]
  refine wpAnyH_take (i := 3) (oi := ⟨some 19, _, _, _, _, _⟩) (v := ?_) rfl (by kernel_rfl) (by kernel_rfl) (by kernel_rfl) (fun _ _ _ h => h) (Or.inl ⟨by rfl, ?_⟩) k0 ?_
  rotate_left
  · intro w hSw
    try dsimp only at hSw
    go_simp
    try with_reducible rfl
  try simp only [Act.put, List.setIfInBounds_toArray, List.set_cons_zero, List.set_cons_succ]
  refine wpAnyH_take (i := 4) (oi := ⟨some 20, _, _, _, _, _⟩) (v := ?_) rfl (by kernel_rfl) (by kernel_rfl) (by kernel_rfl) (fun _ _ _ h => h) (Or.inl ⟨by rfl, ?_⟩) k0 ?_
  rotate_left
  · intro w hSw
    try dsimp only at hSw
    go_simp
    try with_reducible rfl
  try simp only [Act.put, List.setIfInBounds_toArray, List.set_cons_zero, List.set_cons_succ]
  refine wpAnyH_ready (rs := [5]) (by kernel_rfl) (by simp) ?_
  refine (AllReadyH.cons (o := ⟨some 21, _, _, _, _, _⟩) rfl (fun K hK => ?_) AllReadyH.nil)
  go_simp
  refine (HTx.out _ Y0.out.low).mono ?_
  rintro e w4 ⟨rfl, hb4⟩
  have Y4 := Lib.hid (Y0.out.below hb4)
  clear hb4
  go_wp2_with fail
  refine hK.out _ _ (Y4.out.s) (fun k1 => ?_)
  clear hK K
  try simp only [Act.put, List.setIfInBounds_toArray, List.set_cons_zero, List.set_cons_succ]
  refine wpAnyH_ready (rs := [6]) (by kernel_rfl) (by simp) ?_
  refine (AllReadyH.cons (o := ⟨some 22, _, _, _, _, _⟩) rfl (fun K hK => ?_) AllReadyH.nil)
  obtain ⟨c, hrun, hc⟩ := Y4.out.t.ids.look (textZ m R) HKl.out
  have HC := Lib.hid hc
  clear hc
  go_simp
  refine hK.out _ _ (Y4.out.s) (fun k2 => ?_)
  clear hK K
  try simp only [Act.put, List.setIfInBounds_toArray, List.set_cons_zero, List.set_cons_succ]
  refine wpAnyH_take (i := 7) (oi := ⟨some 15, _, _, _, _, _⟩) (v := ?_) rfl (by kernel_rfl) (by kernel_rfl) (by kernel_rfl) (fun _ _ _ h => h) (Or.inl ⟨by rfl, ?_⟩) k2 ?_
  rotate_left
  · intro w hSw
    try dsimp only at hSw
    go_simp
    try with_reducible rfl
  try simp only [Act.put, List.setIfInBounds_toArray, List.set_cons_zero, List.set_cons_succ]
  refine wpAnyH_take (i := 8) (oi := ⟨some 23, _, _, _, _, _⟩) (v := ?_) rfl (by kernel_rfl) (by kernel_rfl) (by kernel_rfl) (fun _ _ _ h => h) (Or.inl ⟨by rfl, ?_⟩) k2 ?_
  rotate_left
  · intro w hSw
    try dsimp only at hSw
    go_simp
    try with_reducible rfl
  try simp only [Act.put, List.setIfInBounds_toArray, List.set_cons_zero, List.set_cons_succ]
  refine wpAnyH_take (i := 9) (oi := ⟨some 24, _, _, _, _, _⟩) (v := ?_) rfl (by kernel_rfl) (by kernel_rfl) (by kernel_rfl) (fun _ _ _ h => h) (Or.inl ⟨by rfl, ?_⟩) k2 ?_
  rotate_left
  · intro w hSw
    try dsimp only at hSw
    go_simp
    try with_reducible rfl
  try simp only [Act.put, List.setIfInBounds_toArray, List.set_cons_zero, List.set_cons_succ]
  refine wpAnyH_take (i := 10) (oi := ⟨some 6, _, _, _, _, _⟩) (v := ?_) rfl (by kernel_rfl) (by kernel_rfl) (by kernel_rfl) (fun _ _ _ h => h) (Or.inl ⟨by rfl, ?_⟩) k2 ?_
  rotate_left
  · intro w hSw
    try dsimp only at hSw
    go_simp
    try with_reducible rfl
  try simp only [Act.put, List.setIfInBounds_toArray, List.set_cons_zero, List.set_cons_succ]
  refine wpAnyH_take (i := 11) (oi := ⟨some 7, _, _, _, _, _⟩) (v := ?_) rfl (by kernel_rfl) (by kernel_rfl) (by kernel_rfl) (fun _ _ _ h => h) (Or.inl ⟨by rfl, ?_⟩) k2 ?_
  rotate_left
  · intro w hSw
    try dsimp only at hSw
    go_simp
    try with_reducible rfl
  try simp only [Act.put, List.setIfInBounds_toArray, List.set_cons_zero, List.set_cons_succ]
  refine wpAnyH_done (by kernel_rfl) ?_ _
  clear hrun
  go_wp2_with fail
  go_ret2
  exact ⟨c, rfl, HC.out, Y4.out.low⟩
end
end Go.Proofs.YtlkbapcienjdcaaDoor
