/- The tree layer: how deep an expression is, by the document; how deep rows of statements are. -/
import Derived.Test.YtklfcjimgnnlfaaDoorTrNum
import Derived.Deep.RegionHeld3
namespace Go.Proofs.YtklfcjimgnnlfaaDoor
open Go.RowKit
section
variable {W : World}
theorem run_max3 {P : Program} (w : World) (ts : Array TypeId) (t : TypeId) (x y z : Int) : (Builtin.max_ ts t #[.int .i64 x, .int .i64 y, .int .i64 z]).run P w = .ok (.int .i64 (max (max x y) z)) w := by
  simp [Builtin.max_, Builtin.max2]
  rw [Int.max_def, Int.max_def]
  split <;> split <;> split <;> omega
/-- The greatest depth of a row of statements, so far. -/
theorem depB_app (l r : List St) : depB (l ++ r) = max (depB l) (depB r) := by
  induction l with
  | nil => simp [depB]
  | cons x l ih => simp only [List.cons_append, depB, ih]; omega
theorem depB_take {l : List St} {k : Nat} {x : St} (h : l[k]? = some x) : depB (l.take (k + 1)) = max (depB (l.take k)) (1 + max (depB x.A) (depB x.B)) := by
  rw [take_one h, depB_app]
  cases x
  simp [depB, depS, St.A, St.B]
theorem depB_mem {l : List St} {k : Nat} {x : St} (h : l[k]? = some x) : 1 + max (depB x.A) (depB x.B) ≤ depB l := by
  have h1 := depB_take h
  have h2 : depB l = max (depB (l.take (k + 1))) (depB (l.drop (k + 1))) := by rw [← depB_app, List.take_append_drop]
  omega
theorem depB_to (l : List St) (k : Nat) : depB (l.take k) ≤ depB l := by
  have h2 : depB l = max (depB (l.take k)) (depB (l.drop k)) := by rw [← depB_app, List.take_append_drop]
  omega
attribute [local go_sem ↓] run_max3
set_option maxRecDepth 100000 in
set_option maxHeartbeats 3200000 in
theorem depth_any (n : Nat) : ∀ (l : List St) (v : Value) (P : Nat → Prop) (W : World), StR P n W l v → (∀ b, P b → b < W.heap.size) → depB l ≤ 1152921504606846976 → Calls Tryd.prog 9 #[v] W (fun e w' => e = .returned (.int .i64 (depB l : Int)) ∧ Below W.heap.size W w') := by
  induction n with
  | zero => intro l v P W h; exact h.elim
  | succ n ih =>
    intro l v P W h hP hdp
    obtain ⟨A, cap, rfl, hc, hl, hat⟩ := h
    have HAt := Lib.hid hat
    have HIH := Lib.hid ih
    have hl2 : l.length ≤ 2199023255552 := by omega
    clear hat ih hl
    obtain ⟨m, hm⟩ : ∃ m, l.length = m := ⟨_, rfl⟩
    have HM := Lib.hid hm
    rw [hm] at hl2 hc ⊢
    clear hm
    go_enter Tryd.func9, Tryd.ntmps9
    go_wp2
    go_loopw [3, 8] (fun s i wr => ∃ k : Nat, i = .int .i64 (k : Int) ∧ k ≤ m ∧ s = .int .i64 (depB (l.take k) : Int) ∧ Below W.heap.size W wr) (fun _ i _ => m - (RowKit.intOf i).toNat)
    case atStart => exact ⟨0, rfl, Nat.zero_le _, by rw [List.take_zero]; rfl, Below.refl _ _⟩
    case round =>
      obtain ⟨k, rfl, hk, rfl, hbw⟩ := hrel
      by_cases hlt : k < m
      · obtain ⟨x, hx⟩ : ∃ x, l[k]? = some x := ⟨l[k]'(by rw [HM.out]; exact hlt), List.getElem?_eq_getElem _⟩
        obtain ⟨b, off, LE, LA, LB, rfl, hbB, hat, -, hE, hA, hB'⟩ := HAt.out k x hx
        obtain ⟨x0, x1, x2, x3, x4, x5⟩ := hat.below hbw (hP b hbB)
        obtain ⟨Ae, ce, rfl, -, -⟩ := hE.slice
        obtain ⟨Aa, ca, rfl, -, -⟩ := hA.slice
        obtain ⟨Ab, cb, rfl, -, -⟩ := hB'.slice
        have HS := Lib.hid (depB_take hx)
        have d1 := depB_mem hx
        have d2 := depB_to l k
        have HBw := Lib.hid hbw
        have hs := HBw.out.size
        obtain ⟨sv, hsv⟩ : ∃ sv, sv = depB (l.take k) := ⟨_, rfl⟩
        rw [← hsv]
        rw [← hsv] at HS d2
        obtain ⟨ta, hta⟩ : ∃ ta, ta = depB x.A := ⟨_, rfl⟩
        obtain ⟨tb, htb⟩ : ∃ tb, tb = depB x.B := ⟨_, rfl⟩
        rw [← hta, ← htb] at HS d1
        have hsv2 : (sv : Int) ≤ 1152921504606846976 := by omega
        have hta2 : (ta : Int) ≤ 1152921504606846976 := by omega
        have htb2 : (tb : Int) ≤ 1152921504606846976 := by omega
        obtain ⟨W1, hW1⟩ : ∃ W1, W1 = wr.alloc (.cells #[.string x.op, .string x.nm, .slice Ae x.e.length ce, .slice Aa x.A.length ca, .slice Ab x.B.length cb, .int .i64 x.a] 60) := ⟨_, rfl⟩
        have HB1 : Hid (Below wr.heap.size wr W1) := Lib.hid (by rw [hW1]; exact (Below.refl _ _).alloc (Nat.le_refl _) _)
        have HK : Hid (Blk W1 wr.heap.size 60 #[.string x.op, .string x.nm, .slice Ae x.e.length ce, .slice Aa x.A.length ca, .slice Ab x.B.length cb, .int .i64 x.a]) := Lib.hid (by rw [hW1]; exact Blk.new wr _ _)
        have HCa : Hid (∀ w2, Below W1.heap.size W1 w2 → Calls Tryd.prog 9 #[.slice Aa x.A.length ca] w2 (fun e w' => e = .returned (.int .i64 (ta : Int)) ∧ Below W1.heap.size W1 w')) := Lib.hid fun w2 hb2 => by
          rw [hta]
          have q := thru (thru hbw HB1.out) hb2
          exact (HIH.out x.A _ P w2 (hA.below q hP) (lo_up hP q.size) (by omega)).mono fun e w' ⟨h1, h2⟩ => ⟨h1, hb2.trans (h2.mono hb2.size)⟩
        have HCb : Hid (∀ w2, Below W1.heap.size W1 w2 → Calls Tryd.prog 9 #[.slice Ab x.B.length cb] w2 (fun e w' => e = .returned (.int .i64 (tb : Int)) ∧ Below W1.heap.size W1 w')) := Lib.hid fun w2 hb2 => by
          rw [htb]
          have q := thru (thru hbw HB1.out) hb2
          exact (HIH.out x.B _ P w2 (hB'.below q hP) (lo_up hP q.size) (by omega)).mono fun e w' ⟨h1, h2⟩ => ⟨h1, hb2.trans (h2.mono hb2.size)⟩
        have HW1 := Lib.hid hW1
        clear hsv hta htb hat hE hA hB' hbw d1 d2 hdp hW1
        have g1 : IntKind.i64.wrap (1 + (ta : Int)) = 1 + (ta : Int) := IntWalk.i64_in _ (by omega)
        have g2 : IntKind.i64.wrap (1 + (tb : Int)) = 1 + (tb : Int) := IntWalk.i64_in _ (by omega)
        have B1 : Hid (Below W1.heap.size W1 W1.drew) := Lib.hid (Below.refl _ _).drew
        have HS2 : Hid (∀ w', Below W1.heap.size W1 w' → (w'.cell? ⟨wr.heap.size, 3, none⟩ = some (.slice Aa x.A.length ca) ∧ w'.cell? ⟨wr.heap.size, 4, none⟩ = some (.slice Ab x.B.length cb))) := Lib.hid fun w' hb => ⟨(HK.out.below hb HK.out.lt).cell 3, (HK.out.below hb HK.out.lt).cell 4⟩
        have K0 := Lib.hid (HS2.out _ B1.out)
        go_wp2_with fail
        rw [← HW1.out]
        go_region_held3 (fun w' => w'.cell? ⟨wr.heap.size, 3, none⟩ = some (.slice Aa x.A.length ca) ∧ w'.cell? ⟨wr.heap.size, 4, none⟩ = some (.slice Ab x.B.length cb))
          (first | (with_reducible exact K0.out) | (with_reducible exact K1.out) | (with_reducible exact K2.out))
          (first
          | (go_at_call 9; ((with_reducible refine (HCa.out _ B1.out).mono ?_); rintro e w1 ⟨rfl, hb⟩); have B2 := Lib.hid hb; have K1 := Lib.hid (HS2.out _ hb); clear hb)
          | (go_at_call 9; ((with_reducible refine (HCb.out _ B2.out).mono ?_); rintro e w2 ⟨rfl, hb⟩); have B3 := Lib.hid hb; have K2 := Lib.hid (HS2.out _ hb); clear hb))
        go_wp2_with fail
        go_roundw
        case rel => exact ⟨k + 1, by go_num, hlt, by rw [HS.out]; exact int_of (by omega), HBw.out.trans (HB1.out.mono hs |>.trans (B3.out.mono (by have := HB1.out.size; omega)))⟩
        case measure => simp [RowKit.intOf]; omega
      · have he : k = m := by omega
        subst he
        have HF : Hid (depB (l.take k) = depB l) := Lib.hid (by rw [← HM.out, List.take_length])
        clear hdp
        go_wp2_with fail
        go_ret
        exact ⟨ret_int (by rw [← HF.out]), hbw⟩
end
end Go.Proofs.YtklfcjimgnnlfaaDoor
