/- The contract of the document's Top. -/
import Derived.Test.YtimckaphmfidhaaGreatDoorGRef
import Derived.Test.YtimckaphmfidhaaGreatDoorGWide
import Derived.BigRegion
import Derived.Deep.RegionHeld
import Derived.Deep.LoopGhost
namespace Go.Proofs.YtimckaphmfidhaaGreatDoor
open Go.RowKit
attribute [local go_sem ↓] Go.wp_at_zero Go.wp_at_succ

/-- While Top goes: the result's box, the zone's, and its row. -/
structure TS (W : World) (m : Nat) (v : Value) (k : Nat) (xs : List Value) (wr : World) : Prop where
  rb : Duo wr W.heap.size 24 (.int .i64 0) (.slice none 0 0)
  ob : Duo wr (W.heap.size + 1) 24 (.int .i64 ((m : Int) - 1)) v
  low : Below W.heap.size W wr
  row : wr.ownsRow (W.heap.size + 2) 3 1 v k xs
  far : W.heap.size + 2 ≤ wr.heap.size
section
variable {W wr W1 : World} {m k : Nat} {v v1 : Value} {xs : List Value} {y : Value}
theorem TS.below (h : TS W m v k xs wr) (hb : Below wr.heap.size wr W1) : TS W m v k xs W1 := ⟨h.rb.below hb, h.ob.below hb, h.low.trans (hb.mono h.low.size), own_kept_below h.row hb, Nat.le_trans h.far hb.size⟩
theorem TS.add {o : Obj} (h : TS W m v k xs wr) (ho : W1.ownsRow (W.heap.size + 2) 3 1 v1 (k + 1) (xs ++ [y])) (hg : (wr.alloc o).grownBy W1 v.ownBlock) :
    TS W m v1 (k + 1) (xs ++ [y]) (W1.setCell ⟨W.heap.size + 1, 1, none⟩ v1) ∧ (W1.cell? ⟨W.heap.size + 1, 1, none⟩ = some v ∧ W1.frozen? ⟨W.heap.size + 1, 1, none⟩ = false ∧ W.heap.size + 1 < W1.heap.size) := by
  have h1 := h.below (zboxed wr o)
  have hr := h1.row.lt
  have a := h1.rb.kept hg (fun e => by have := (hr _ e.symm).1; omega)
  have b := h1.ob.kept hg (fun e => by have := (hr _ e.symm).1; omega)
  have hl : Below W.heap.size W W1 := h1.low.grown hg h1.low.size (fun q e => by have := (hr q e).1; omega)
  have hs := b.lt
  refine ⟨⟨a.other (by simp) _, b.set1 _, hl.setCell (p := ⟨W.heap.size + 1, 1, none⟩) (by simp) _, ho.kept (duo_grown_setCell _ _ _) (.inr fun e => ?_), by simp; omega⟩, b.cell1, b.frozen1, hs⟩
  have := (ho.lt (W.heap.size + 1) e).1
  omega
end
theorem far_closed {m : Nat} : Closed m far := ⟨fun i _ => far_same i, fun _ _ _ _ => Int.le_refl _, fun x i j _ _ _ => far_tri i j x⟩
set_option maxRecDepth 100000 in
set_option maxHeartbeats 6400000 in
theorem rztop_in {W : World} {m : Nat} (h0 : 0 < m) (h7 : m ≤ 7) : Calls Tryz.prog 46 #[.int .i64 ((m : Int) - 1)] W (RetC W m (some far)) := by
  obtain ⟨i0, hi, hz0, hz1, hz2⟩ := info_parts zinfo3
  have HI0 := Lib.hid (And.intro hi (And.intro hz0 (And.intro hz1 hz2)))
  have hd : decide ((m : Int) - 1 < 0) = false := decide_eq_false (by omega)
  have hd2 : decide (6 < (m : Int) - 1) = false := decide_eq_false (by omega)
  have k0 := (Duo.new W 24 (.int .i64 0) (.slice none 0 0)).alloc (.cells #[.int .i64 ((m : Int) - 1), .slice none 0 0] 24)
  have k1 := Duo.new (W.alloc (.cells #[.int .i64 0, .slice none 0 0] 24)) 24 (.int .i64 ((m : Int) - 1)) (.slice none 0 0)
  simp only [World.size_alloc] at k1
  have hX : TS W m (.slice none 0 0) 0 [] ((W.alloc (.cells #[.int .i64 0, .slice none 0 0] 24)).alloc (.cells #[.int .i64 ((m : Int) - 1), .slice none 0 0] 24)) :=
    ⟨k0, k1, ((Below.refl _ W).alloc (Nat.le_refl _) _).alloc (by simp) _, World.ownsRow_nil _ _ _ _, by simp⟩
  have X0 := Lib.hid hX
  have H0 := Lib.hid h0
  have H7 := Lib.hid h7
  clear k0 k1 hX hi hz0 hz1 hz2
  go_enter Tryz.func46, Tryz.ntmps46
  go_wp2_with fail
  go_loopg [4] m (fun gk t4 wr => ∃ (i : Nat) (v : Value), i + gk = m ∧ t4 = .int .i64 (i : Int) ∧ TS W m v (i * m + 0) ((flatUp m far (i * m + 0)).map (Value.int .i64)) wr)
  case atStart => exact ⟨0, _, by omega, rfl, by simp only [Nat.zero_mul]; exact X0.out⟩
  case round =>
    rename Nat => g0
    obtain ⟨i, v, hi, rfl, hS⟩ := hrel
    have HI := Lib.hid hi
    have HS := Lib.hid hS
    clear hi hS X0
    by_cases him : i < m
    · have d1 : decide ((i : Int) ≤ (m : Int) - 1) = true := decide_eq_true (by omega)
      go_wp2_with fail
      go_loopg [5] m (fun gk t5 wr => ∃ (j : Nat) (v : Value), j + gk = m ∧ t5 = .int .i64 (j : Int) ∧ TS W m v (i * m + j) ((flatUp m far (i * m + j)).map (Value.int .i64)) wr)
      case atStart => exact ⟨0, _, by omega, rfl, HS.out⟩
      case round =>
        rename Nat => g1
        clear HS
        obtain ⟨j, v, hj, rfl, hS⟩ := hrel
        have HJ := Lib.hid hj
        have HS := Lib.hid hS
        clear hj hS
        by_cases hjm : j < m
        · have d2 : decide ((j : Int) ≤ (m : Int) - 1) = true := decide_eq_true (by omega)
          obtain ⟨e1, e2, e3, e4⟩ := mul_idx h7 him hjm
          have HUp : Hid (flatUp m far (i * m + j + 1) = flatUp m far (i * m + j) ++ [far i j]) := Lib.hid (flatUp_succ _ hjm)
          have HMo := Lib.hid (fun W => rmost_any i j W)
          have HBd : Hid (i * m + j + 1 ≤ maxLen ∧ (i * m + j + 1) * 8 ≤ 140737488355328) := Lib.hid (by
            have : m * m ≤ 49 := Nat.mul_le_mul H7.out H7.out
            unfold maxLen; omega)
          obtain ⟨x, hx⟩ : ∃ x, far i j = x := ⟨_, rfl⟩
          rw [hx] at HUp HMo
          have T0 := Lib.hid (HS.out.below (Below.refl _ _).drew)
          obtain ⟨hi, hz0, hz1, hz2⟩ := HI0.out
          clear hx e1 e2 e3 e4 HS
          go_wp2_with fail
          refine wp_region_held_drew (S := fun _ => True) (by kernel_rfl) trivial (fun hH0 => ?_)
          refine wpAnyH_take (i := 0) (oi := ⟨some 25, _, _, _, _, _⟩) (v := ?_) rfl (by kernel_rfl) (by kernel_rfl) (by kernel_rfl) (fun _ _ _ h => h) (Or.inl ⟨by rfl, ?_⟩) hH0 ?_
          rotate_left
          · intro w hSw
            try dsimp only at hSw
            go_simp
            try with_reducible rfl
          try simp only [Act.put, List.setIfInBounds_toArray, List.set_cons_zero, List.set_cons_succ]
          refine wpAnyH_take (i := 2) (oi := ⟨some 27, _, _, _, _, _⟩) (v := ?_) rfl (by kernel_rfl) (by kernel_rfl) (by kernel_rfl) (fun _ _ _ h => h) (Or.inl ⟨by rfl, ?_⟩) hH0 ?_
          rotate_left
          · intro w hSw
            try dsimp only at hSw
            go_simp
            try with_reducible rfl
          try simp only [Act.put, List.setIfInBounds_toArray, List.set_cons_zero, List.set_cons_succ]
          refine wpAnyH_take (i := 3) (oi := ⟨some 28, _, _, _, _, _⟩) (v := ?_) rfl (by kernel_rfl) (by kernel_rfl) (by kernel_rfl) (fun _ _ _ h => h) (Or.inl ⟨by rfl, ?_⟩) hH0 ?_
          rotate_left
          · intro w hSw
            try dsimp only at hSw
            go_simp
            try with_reducible rfl
          try simp only [Act.put, List.setIfInBounds_toArray, List.set_cons_zero, List.set_cons_succ]
          refine wpAnyH_ready (rs := [1, 4]) (by kernel_rfl) (by simp) ?_
          refine (AllReadyH.cons (o := ⟨some 26, _, _, _, _, _⟩) rfl (fun K hK => ?_) (AllReadyH.cons (o := ⟨some 29, _, _, _, _, _⟩) rfl (fun K hK => ?_) AllReadyH.nil))
          · have zl := T0.out.ob.cell1
            go_simp
            refine hK.out _ _ trivial (fun hL0 => ?_)
            clear hK K
            try simp only [List.setIfInBounds_toArray, List.set_cons_zero, List.set_cons_succ]
            clear zl
            refine wpAnyH_ready (rs := [4]) (by kernel_rfl) (by simp) ?_
            refine (AllReadyH.cons (o := ⟨some 29, _, _, _, _, _⟩) rfl (fun K hK => ?_) AllReadyH.nil)
            go_simp
            refine (HMo.out _).mono ?_
            rintro e w1 ⟨rfl, rfl⟩
            go_wp2_with fail
            refine hK.out _ _ trivial (fun hH1 => ?_)
            clear hK K
            try simp only [List.setIfInBounds_toArray, List.set_cons_zero, List.set_cons_succ]
            refine wpAnyH_ready (rs := [5]) (by kernel_rfl) (by simp) ?_
            refine (AllReadyH.cons (o := ⟨some 30, _, _, _, _, _⟩) rfl (fun K hK => ?_) AllReadyH.nil)
            have T3 := Lib.hid (T0.out.below (zboxed wr.drew (.cells #[.int .i64 x] 3)))
            go_simp
            refine hK.out _ _ trivial (fun hH3 => ?_)
            clear hK K
            try simp only [List.setIfInBounds_toArray, List.set_cons_zero, List.set_cons_succ]
            refine wpAnyH_ready (rs := [6]) (by kernel_rfl) (by simp) ?_
            refine (AllReadyH.cons (o := ⟨some 31, _, _, _, _, _⟩) rfl (fun K hK => ?_) AllReadyH.nil)
            rw [if_pos (by rfl)]
            refine wp_append_at (.tmp 26) (.tmp 30) 22 rfl (W.heap.size + 2) 3 i0 (.int .i64 0) 1 8 Tryz.underlying22 hi hz0 hz1 hz2 rfl (by decide) v (i * m + j) ((flatUp m far (i * m + j)).map (Value.int .i64)) rfl T3.out.row ⟨wr.heap.size, 0, none⟩ 1 1 [.int .i64 x] rfl rfl (news_one wr.drew _ _) (by simp [Value.oneCell']) HBd.out.1 HBd.out.2 T3.out.far ?_
            intro v7 w7 ho7 hg7 hl7
            obtain ⟨g7, c7, rfl⟩ := slice_own ho7 (Nat.succ_pos _)
            have A7 := Lib.hid (T0.out.add ho7 hg7)
            clear ho7 hg7 hl7
            refine hK.out _ _ trivial (fun hH4 => ?_)
            clear hK K
            skip
            refine wpAnyH_take (i := 7) (oi := ⟨some 32, _, _, _, _, _⟩) (v := ?_) rfl (by kernel_rfl) (by kernel_rfl) (by kernel_rfl) (fun _ _ _ h => h) (Or.inl ⟨by rfl, ?_⟩) hH4 ?_
            rotate_left
            · intro w hSw
              try dsimp only at hSw
              go_simp
              try with_reducible rfl
            try simp only [Act.put, List.setIfInBounds_toArray, List.set_cons_zero, List.set_cons_succ]
            refine wpAnyH_ready (rs := [8]) (by kernel_rfl) (by simp) ?_
            refine (AllReadyH.cons (o := ⟨none, _, _, _, _, _⟩) rfl (fun K hK => ?_) AllReadyH.nil)
            obtain ⟨z0, z1, z2⟩ := A7.out.2
            go_simp
            refine hK.out _ _ trivial (fun hH5 => ?_)
            clear hK K
            try simp only [List.setIfInBounds_toArray, List.set_cons_zero, List.set_cons_succ]
            refine wpAnyH_done (by kernel_rfl) ?_ _
            go_wp2_with fail
            have hj := HJ.out
            go_roundg (g1 - 1)
            case measure => omega
            case rel => exact ⟨j + 1, _, by omega, by simp, by rw [← Nat.add_assoc, HUp.out, List.map_append]; exact A7.out.1⟩
          · go_simp
            refine (HMo.out _).mono ?_
            rintro e w1 ⟨rfl, rfl⟩
            go_wp2_with fail
            refine hK.out _ _ trivial (fun hH1 => ?_)
            clear hK K
            try simp only [List.setIfInBounds_toArray, List.set_cons_zero, List.set_cons_succ]
            refine wpAnyH_ready (rs := [1, 5]) (by kernel_rfl) (by simp) ?_
            refine (AllReadyH.cons (o := ⟨some 26, _, _, _, _, _⟩) rfl (fun K hK => ?_) (AllReadyH.cons (o := ⟨some 30, _, _, _, _, _⟩) rfl (fun K hK => ?_) AllReadyH.nil))
            · have zl := T0.out.ob.cell1
              go_simp
              refine hK.out _ _ trivial (fun hL1 => ?_)
              clear hK K
              try simp only [List.setIfInBounds_toArray, List.set_cons_zero, List.set_cons_succ]
              clear zl
              refine wpAnyH_ready (rs := [5]) (by kernel_rfl) (by simp) ?_
              refine (AllReadyH.cons (o := ⟨some 30, _, _, _, _, _⟩) rfl (fun K hK => ?_) AllReadyH.nil)
              have T3 := Lib.hid (T0.out.below (zboxed wr.drew (.cells #[.int .i64 x] 3)))
              go_simp
              refine hK.out _ _ trivial (fun hH3 => ?_)
              clear hK K
              try simp only [List.setIfInBounds_toArray, List.set_cons_zero, List.set_cons_succ]
              refine wpAnyH_ready (rs := [6]) (by kernel_rfl) (by simp) ?_
              refine (AllReadyH.cons (o := ⟨some 31, _, _, _, _, _⟩) rfl (fun K hK => ?_) AllReadyH.nil)
              rw [if_pos (by rfl)]
              refine wp_append_at (.tmp 26) (.tmp 30) 22 rfl (W.heap.size + 2) 3 i0 (.int .i64 0) 1 8 Tryz.underlying22 hi hz0 hz1 hz2 rfl (by decide) v (i * m + j) ((flatUp m far (i * m + j)).map (Value.int .i64)) rfl T3.out.row ⟨wr.heap.size, 0, none⟩ 1 1 [.int .i64 x] rfl rfl (news_one wr.drew _ _) (by simp [Value.oneCell']) HBd.out.1 HBd.out.2 T3.out.far ?_
              intro v7 w7 ho7 hg7 hl7
              obtain ⟨g7, c7, rfl⟩ := slice_own ho7 (Nat.succ_pos _)
              have A7 := Lib.hid (T0.out.add ho7 hg7)
              clear ho7 hg7 hl7
              refine hK.out _ _ trivial (fun hH4 => ?_)
              clear hK K
              skip
              refine wpAnyH_take (i := 7) (oi := ⟨some 32, _, _, _, _, _⟩) (v := ?_) rfl (by kernel_rfl) (by kernel_rfl) (by kernel_rfl) (fun _ _ _ h => h) (Or.inl ⟨by rfl, ?_⟩) hH4 ?_
              rotate_left
              · intro w hSw
                try dsimp only at hSw
                go_simp
                try with_reducible rfl
              try simp only [Act.put, List.setIfInBounds_toArray, List.set_cons_zero, List.set_cons_succ]
              refine wpAnyH_ready (rs := [8]) (by kernel_rfl) (by simp) ?_
              refine (AllReadyH.cons (o := ⟨none, _, _, _, _, _⟩) rfl (fun K hK => ?_) AllReadyH.nil)
              obtain ⟨z0, z1, z2⟩ := A7.out.2
              go_simp
              refine hK.out _ _ trivial (fun hH5 => ?_)
              clear hK K
              try simp only [List.setIfInBounds_toArray, List.set_cons_zero, List.set_cons_succ]
              refine wpAnyH_done (by kernel_rfl) ?_ _
              go_wp2_with fail
              have hj := HJ.out
              go_roundg (g1 - 1)
              case measure => omega
              case rel => exact ⟨j + 1, _, by omega, by simp, by rw [← Nat.add_assoc, HUp.out, List.map_append]; exact A7.out.1⟩
            · have T3 := Lib.hid (T0.out.below (zboxed wr.drew (.cells #[.int .i64 x] 3)))
              go_simp
              refine hK.out _ _ trivial (fun hH3 => ?_)
              clear hK K
              try simp only [List.setIfInBounds_toArray, List.set_cons_zero, List.set_cons_succ]
              refine wpAnyH_ready (rs := [1]) (by kernel_rfl) (by simp) ?_
              refine (AllReadyH.cons (o := ⟨some 26, _, _, _, _, _⟩) rfl (fun K hK => ?_) AllReadyH.nil)
              have zl : (wr.alloc (.cells #[.int .i64 x] 3)).cell? ⟨W.heap.size + 1, 1, none⟩ = some v := T3.out.ob.cell1
              go_simp
              refine hK.out _ _ trivial (fun hL2 => ?_)
              clear hK K
              try simp only [List.setIfInBounds_toArray, List.set_cons_zero, List.set_cons_succ]
              clear zl
              refine wpAnyH_ready (rs := [6]) (by kernel_rfl) (by simp) ?_
              refine (AllReadyH.cons (o := ⟨some 31, _, _, _, _, _⟩) rfl (fun K hK => ?_) AllReadyH.nil)
              rw [if_pos (by rfl)]
              refine wp_append_at (.tmp 26) (.tmp 30) 22 rfl (W.heap.size + 2) 3 i0 (.int .i64 0) 1 8 Tryz.underlying22 hi hz0 hz1 hz2 rfl (by decide) v (i * m + j) ((flatUp m far (i * m + j)).map (Value.int .i64)) rfl T3.out.row ⟨wr.heap.size, 0, none⟩ 1 1 [.int .i64 x] rfl rfl (news_one wr.drew _ _) (by simp [Value.oneCell']) HBd.out.1 HBd.out.2 T3.out.far ?_
              intro v7 w7 ho7 hg7 hl7
              obtain ⟨g7, c7, rfl⟩ := slice_own ho7 (Nat.succ_pos _)
              have A7 := Lib.hid (T0.out.add ho7 hg7)
              clear ho7 hg7 hl7
              refine hK.out _ _ trivial (fun hH4 => ?_)
              clear hK K
              skip
              refine wpAnyH_take (i := 7) (oi := ⟨some 32, _, _, _, _, _⟩) (v := ?_) rfl (by kernel_rfl) (by kernel_rfl) (by kernel_rfl) (fun _ _ _ h => h) (Or.inl ⟨by rfl, ?_⟩) hH4 ?_
              rotate_left
              · intro w hSw
                try dsimp only at hSw
                go_simp
                try with_reducible rfl
              try simp only [Act.put, List.setIfInBounds_toArray, List.set_cons_zero, List.set_cons_succ]
              refine wpAnyH_ready (rs := [8]) (by kernel_rfl) (by simp) ?_
              refine (AllReadyH.cons (o := ⟨none, _, _, _, _, _⟩) rfl (fun K hK => ?_) AllReadyH.nil)
              obtain ⟨z0, z1, z2⟩ := A7.out.2
              go_simp
              refine hK.out _ _ trivial (fun hH5 => ?_)
              clear hK K
              try simp only [List.setIfInBounds_toArray, List.set_cons_zero, List.set_cons_succ]
              refine wpAnyH_done (by kernel_rfl) ?_ _
              go_wp2_with fail
              have hj := HJ.out
              go_roundg (g1 - 1)
              case measure => omega
              case rel => exact ⟨j + 1, _, by omega, by simp, by rw [← Nat.add_assoc, HUp.out, List.map_append]; exact A7.out.1⟩
        · have d2 : decide ((j : Int) ≤ (m : Int) - 1) = false := decide_eq_false (by omega)
          have hje : j = m := by have := HJ.out; omega
          subst hje
          go_wp2_with fail
          have hi := HI.out
          go_roundg (g0 - 1)
          case measure => omega
          case rel => exact ⟨i + 1, v, by omega, by simp, by rw [show (i + 1) * j + 0 = i * j + j by rw [Nat.add_mul]; omega]; exact HS.out⟩
    · have d1 : decide ((i : Int) ≤ (m : Int) - 1) = false := decide_eq_false (by omega)
      have hie : i = m := by have := HI.out; omega
      subst hie
      have hii : 0 < i * i := Nat.mul_pos h0 h0
      have hrow := HS.out.row
      obtain ⟨go, co, rfl⟩ := slice_own hrow hii
      have y0 := HS.out.ob.cell0
      have y1 := HS.out.ob.cell1
      have y2 := HS.out.rb.cell0
      have y3 := HS.out.rb.cell1
      have y4 := HS.out.rb.frozen0
      have y5 := HS.out.rb.frozen1
      have y6 := HS.out.rb.lt
      have HR := Lib.hid hrow
      clear hrow
      go_wp2_with fail
      have hp := res_put HS.out.rb HS.out.low (Nat.le_refl _) (.int .i64 ((i : Int) - 1)) (.slice (some ⟨go, 0, none⟩) (i * i) co)
      have q0 := hp.1.cell0
      have q1 := hp.1.cell1
      have hrw := row_put HS.out.rb HR.out (.int .i64 ((i : Int) - 1)) (.slice (some ⟨go, 0, none⟩) (i * i) co)
      exact bodyPost_ret (v := zoneV ((i : Int) - 1) (some ⟨go, 0, none⟩) (i * i) co) (by simp [results, Tryz.results46, go_sem, q0, q1]) rfl ⟨some ⟨go, 0, none⟩, co, rfl, ⟨far_closed, go, co, rfl, own_lower hrw (by omega)⟩, hp.2⟩
end Go.Proofs.YtimckaphmfidhaaGreatDoor
