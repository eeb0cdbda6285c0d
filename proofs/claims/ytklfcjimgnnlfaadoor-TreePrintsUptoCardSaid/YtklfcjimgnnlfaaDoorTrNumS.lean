/- The tree layer: how many statements and expressions there are; how deep rows of statements are, by the document. -/
import Derived.Test.YtklfcjimgnnlfaaDoorTrNumR
namespace Go.Proofs.YtklfcjimgnnlfaaDoor
open Go.RowKit
theorem W64_sum (a b : Nat) : IntKind.i64.wrap (W64 a + W64 b) = W64 (a + b) := by
  rw [IntWalk.i64_left]; exact W64_add a b
/-- What a statement has in it. -/
def inS (x : St) : Nat := szL x.e + szB x.A + szB x.B
theorem szB_sum (l : List St) : szB l = l.length + sumF inS l := by
  induction l with
  | nil => rfl
  | cons x l ih =>
    cases x
    simp only [szB, szS, sumF, List.length_cons, inS, St.e, St.A, St.B, ih]
    omega
section
variable {W : World}
set_option maxRecDepth 100000 in
set_option maxHeartbeats 3200000 in
theorem sizedBlock_any (n : Nat) : ∀ (l : List St) (v : Value) (P : Nat → Prop) (W : World), StR P n W l v → (∀ b, P b → b < W.heap.size) → Calls Tryd.prog 26 #[v] W (fun e w' => e = .returned (.int .i64 (W64 (szB l))) ∧ Below W.heap.size W w') := by
  induction n with
  | zero => intro l v P W h; exact h.elim
  | succ n ih =>
    intro l v P W h hP
    obtain ⟨A, cap, rfl, hc, hl, hat⟩ := h
    have HAt := Lib.hid hat
    have HIH := Lib.hid ih
    have HSum := Lib.hid (szB_sum l)
    have hl2 : l.length ≤ 2199023255552 := by omega
    have HL0 := Lib.hid (W64_len (a := l.length) (by omega))
    clear hat ih hl
    obtain ⟨m, hm⟩ : ∃ m, l.length = m := ⟨_, rfl⟩
    have HM := Lib.hid hm
    rw [hm] at hl2 hc HSum HL0 ⊢
    clear hm
    go_enter Tryd.func26, Tryd.ntmps26
    go_wp2
    go_loopw [3, 10] (fun s i wr => ∃ k : Nat, i = .int .i64 (k : Int) ∧ k ≤ m ∧ s = .int .i64 (W64 (m + sumF inS (l.take k))) ∧ Below W.heap.size W wr) (fun _ i _ => m - (RowKit.intOf i).toNat)
    case atStart => exact ⟨0, rfl, Nat.zero_le _, by rw [List.take_zero]; simp only [sumF, Nat.add_zero]; rw [HL0.out], Below.refl _ _⟩
    case round =>
      obtain ⟨k, rfl, hk, rfl, hbw⟩ := hrel
      by_cases hlt : k < m
      · obtain ⟨x, hx⟩ : ∃ x, l[k]? = some x := ⟨l[k]'(by rw [HM.out]; exact hlt), List.getElem?_eq_getElem _⟩
        obtain ⟨b, off, LE, LA, LB, rfl, hbB, hat, -, hE, hA, hB'⟩ := HAt.out k x hx
        obtain ⟨x0, x1, x2, x3, x4, x5⟩ := hat.below hbw (hP b hbB)
        obtain ⟨Ae, ce, rfl, -, -⟩ := hE.slice
        obtain ⟨Aa, ca, rfl, -, -⟩ := hA.slice
        obtain ⟨Ab, cb, rfl, -, -⟩ := hB'.slice
        have HS := Lib.hid (sumF_take inS hx)
        have HBw := Lib.hid hbw
        have hs := HBw.out.size
        obtain ⟨sv, hsv⟩ : ∃ sv, sv = W64 (m + sumF inS (l.take k)) := ⟨_, rfl⟩
        obtain ⟨te, hte⟩ : ∃ te, te = W64 (szL x.e) := ⟨_, rfl⟩
        obtain ⟨ta, hta⟩ : ∃ ta, ta = W64 (szB x.A) := ⟨_, rfl⟩
        obtain ⟨tb, htb⟩ : ∃ tb, tb = W64 (szB x.B) := ⟨_, rfl⟩
        obtain ⟨u1, hu1⟩ : ∃ u1, u1 = W64 (szL x.e + szB x.A) := ⟨_, rfl⟩
        obtain ⟨u2, hu2⟩ : ∃ u2, u2 = W64 (inS x) := ⟨_, rfl⟩
        obtain ⟨u3, hu3⟩ : ∃ u3, u3 = W64 (m + sumF inS (l.take (k + 1))) := ⟨_, rfl⟩
        have g1 : IntKind.i64.wrap (te + ta) = u1 := by rw [hte, hta, hu1, W64_sum]
        have g2 : IntKind.i64.wrap (u1 + tb) = u2 := by rw [hu1, htb, hu2, W64_sum]; rfl
        have g3 : IntKind.i64.wrap (sv + u2) = u3 := by rw [hsv, hu2, hu3, W64_sum, HS.out, Nat.add_assoc]
        rw [← hsv]
        obtain ⟨W1, hW1⟩ : ∃ W1, W1 = wr.alloc (.cells #[.string x.op, .string x.nm, .slice Ae x.e.length ce, .slice Aa x.A.length ca, .slice Ab x.B.length cb, .int .i64 x.a] 60) := ⟨_, rfl⟩
        have HB1 : Hid (Below wr.heap.size wr W1) := Lib.hid (by rw [hW1]; exact (Below.refl _ _).alloc (Nat.le_refl _) _)
        have HK : Hid (Blk W1 wr.heap.size 60 #[.string x.op, .string x.nm, .slice Ae x.e.length ce, .slice Aa x.A.length ca, .slice Ab x.B.length cb, .int .i64 x.a]) := Lib.hid (by rw [hW1]; exact Blk.new wr _ _)
        have HQ : Hid (∀ w2, Below W1.heap.size W1 w2 → Below W.heap.size W w2) := Lib.hid fun w2 hb2 => by
          exact thru (thru hbw HB1.out) hb2
        have HCe : Hid (∀ w2, Below W1.heap.size W1 w2 → Calls Tryd.prog 49 #[.slice Ae x.e.length ce] w2 (fun e w' => e = .returned (.int .i64 te) ∧ Below W1.heap.size W1 w')) := Lib.hid fun w2 hb2 => by
          rw [hte]
          exact (sizedExprs_any _ x.e _ P w2 (hE.below (HQ.out w2 hb2) hP) (lo_up hP (HQ.out w2 hb2).size)).mono fun e w' ⟨h1, h2⟩ => ⟨h1, hb2.trans (h2.mono hb2.size)⟩
        have HCa : Hid (∀ w2, Below W1.heap.size W1 w2 → Calls Tryd.prog 26 #[.slice Aa x.A.length ca] w2 (fun e w' => e = .returned (.int .i64 ta) ∧ Below W1.heap.size W1 w')) := Lib.hid fun w2 hb2 => by
          rw [hta]
          exact (HIH.out x.A _ P w2 (hA.below (HQ.out w2 hb2) hP) (lo_up hP (HQ.out w2 hb2).size)).mono fun e w' ⟨h1, h2⟩ => ⟨h1, hb2.trans (h2.mono hb2.size)⟩
        have HCb : Hid (∀ w2, Below W1.heap.size W1 w2 → Calls Tryd.prog 26 #[.slice Ab x.B.length cb] w2 (fun e w' => e = .returned (.int .i64 tb) ∧ Below W1.heap.size W1 w')) := Lib.hid fun w2 hb2 => by
          rw [htb]
          exact (HIH.out x.B _ P w2 (hB'.below (HQ.out w2 hb2) hP) (lo_up hP (HQ.out w2 hb2).size)).mono fun e w' ⟨h1, h2⟩ => ⟨h1, hb2.trans (h2.mono hb2.size)⟩
        have HW1 := Lib.hid hW1
        have HU3 := Lib.hid hu3
        clear hsv hte hta htb hu1 hu2 hu3 hat hE hA hB' hbw hW1
        have B1 : Hid (Below W1.heap.size W1 W1.drew) := Lib.hid (Below.refl _ _).drew
        have HS2 : Hid (∀ w', Below W1.heap.size W1 w' → (w'.cell? ⟨wr.heap.size, 2, none⟩ = some (.slice Ae x.e.length ce) ∧ w'.cell? ⟨wr.heap.size, 3, none⟩ = some (.slice Aa x.A.length ca) ∧ w'.cell? ⟨wr.heap.size, 4, none⟩ = some (.slice Ab x.B.length cb))) := Lib.hid fun w' hb => ⟨(HK.out.below hb HK.out.lt).cell 2, (HK.out.below hb HK.out.lt).cell 3, (HK.out.below hb HK.out.lt).cell 4⟩
        have K0 := Lib.hid (HS2.out _ B1.out)
        go_wp2_with fail
        rw [← HW1.out]
        go_region_held3 (fun w' => w'.cell? ⟨wr.heap.size, 2, none⟩ = some (.slice Ae x.e.length ce) ∧ w'.cell? ⟨wr.heap.size, 3, none⟩ = some (.slice Aa x.A.length ca) ∧ w'.cell? ⟨wr.heap.size, 4, none⟩ = some (.slice Ab x.B.length cb))
          (first | (with_reducible exact K0.out) | (with_reducible exact K1.out) | (with_reducible exact K2.out) | (with_reducible exact K3.out))
          (first
          | (go_at_call 49; ((with_reducible refine (HCe.out _ B1.out).mono ?_); rintro e w1 ⟨rfl, hb⟩); have B2 := Lib.hid hb; have K1 := Lib.hid (HS2.out _ hb); clear hb)
          | (go_at_call 26; ((with_reducible refine (HCa.out _ B2.out).mono ?_); rintro e w2 ⟨rfl, hb⟩); have B3 := Lib.hid hb; have K2 := Lib.hid (HS2.out _ hb); clear hb)
          | (go_at_call 26; ((with_reducible refine (HCb.out _ B3.out).mono ?_); rintro e w3 ⟨rfl, hb⟩); have B4 := Lib.hid hb; have K3 := Lib.hid (HS2.out _ hb); clear hb))
        clear g1 g2 g3
        go_wp2_with fail
        go_roundw
        case rel => exact ⟨k + 1, by go_num, hlt, by rw [← HU3.out], HBw.out.trans (HB1.out.mono hs |>.trans (B4.out.mono (by have := HB1.out.size; omega)))⟩
        case measure => simp [RowKit.intOf]; omega
      · have he : k = m := by omega
        subst he
        have HF : Hid (W64 (k + sumF inS (l.take k)) = W64 (szB l)) := Lib.hid (by rw [HSum.out, ← HM.out, List.take_length])
        go_wp2_with fail
        go_ret
        exact ⟨ret_int HF.out, hbw⟩
set_option maxRecDepth 100000 in
set_option maxHeartbeats 3200000 in
theorem rSize_any (n : Nat) : ∀ (l : List St) (v : Value) (P : Nat → Prop) (W : World), StR P n W l v → (∀ b, P b → b < W.heap.size) → Calls Tryd.prog 21 #[v] W (fun e w' => e = .returned (.int .i64 (W64 (szB l))) ∧ Below W.heap.size W w') := by
  induction n with
  | zero => intro l v P W h; exact h.elim
  | succ n ih =>
    intro l v P W h hP
    obtain ⟨A, cap, rfl, hc, hl, hat⟩ := h
    have HAt := Lib.hid hat
    have HIH := Lib.hid ih
    have HSum := Lib.hid (szB_sum l)
    have hl2 : l.length ≤ 2199023255552 := by omega
    have HL0 := Lib.hid (W64_len (a := l.length) (by omega))
    clear hat ih hl
    obtain ⟨m, hm⟩ : ∃ m, l.length = m := ⟨_, rfl⟩
    have HM := Lib.hid hm
    rw [hm] at hl2 hc HSum HL0 ⊢
    clear hm
    go_enter Tryd.func21, Tryd.ntmps21
    go_wp2
    go_loopw [3, 4] (fun s i wr => ∃ k : Nat, i = .int .i64 (k : Int) ∧ k ≤ m ∧ s = .int .i64 (W64 (m + sumF inS (l.take k))) ∧ Below W.heap.size W wr) (fun _ i _ => m - (RowKit.intOf i).toNat)
    case atStart => exact ⟨0, rfl, Nat.zero_le _, by rw [List.take_zero]; simp only [sumF, Nat.add_zero]; rw [HL0.out], Below.refl _ _⟩
    case round =>
      obtain ⟨k, rfl, hk, rfl, hbw⟩ := hrel
      by_cases hlt : k < m
      · obtain ⟨x, hx⟩ : ∃ x, l[k]? = some x := ⟨l[k]'(by rw [HM.out]; exact hlt), List.getElem?_eq_getElem _⟩
        obtain ⟨b, off, LE, LA, LB, rfl, hbB, hat, -, hE, hA, hB'⟩ := HAt.out k x hx
        obtain ⟨x0, x1, x2, x3, x4, x5⟩ := hat.below hbw (hP b hbB)
        obtain ⟨Ae, ce, rfl, -, -⟩ := hE.slice
        obtain ⟨Aa, ca, rfl, -, -⟩ := hA.slice
        obtain ⟨Ab, cb, rfl, -, -⟩ := hB'.slice
        have HS := Lib.hid (sumF_take inS hx)
        have HBw := Lib.hid hbw
        have hs := HBw.out.size
        obtain ⟨sv, hsv⟩ : ∃ sv, sv = W64 (m + sumF inS (l.take k)) := ⟨_, rfl⟩
        obtain ⟨te, hte⟩ : ∃ te, te = W64 (szL x.e) := ⟨_, rfl⟩
        obtain ⟨ta, hta⟩ : ∃ ta, ta = W64 (szB x.A) := ⟨_, rfl⟩
        obtain ⟨tb, htb⟩ : ∃ tb, tb = W64 (szB x.B) := ⟨_, rfl⟩
        obtain ⟨u1, hu1⟩ : ∃ u1, u1 = W64 (m + sumF inS (l.take k) + szL x.e) := ⟨_, rfl⟩
        obtain ⟨u2, hu2⟩ : ∃ u2, u2 = W64 (m + sumF inS (l.take k) + szL x.e + szB x.A) := ⟨_, rfl⟩
        obtain ⟨u3, hu3⟩ : ∃ u3, u3 = W64 (m + sumF inS (l.take (k + 1))) := ⟨_, rfl⟩
        have g1 : IntKind.i64.wrap (sv + te) = u1 := by rw [hsv, hte, hu1, W64_sum]
        have g2 : IntKind.i64.wrap (u1 + ta) = u2 := by rw [hu1, hta, hu2, W64_sum]
        have g3 : IntKind.i64.wrap (u2 + tb) = u3 := by rw [hu2, htb, hu3, W64_sum, HS.out]; unfold inS; congr 1; omega
        rw [← hsv]
        have HQ : Hid (∀ w2, Below wr.heap.size wr w2 → Below W.heap.size W w2) := Lib.hid fun w2 hb2 => by
          exact thru hbw hb2
        have HCe : Hid (∀ w2, Below wr.heap.size wr w2 → Calls Tryd.prog 45 #[.slice Ae x.e.length ce] w2 (fun e w' => e = .returned (.int .i64 te) ∧ Below wr.heap.size wr w')) := Lib.hid fun w2 hb2 => by
          rw [hte]
          exact (rsize_any _ x.e _ P w2 (hE.below (HQ.out w2 hb2) hP) (lo_up hP (HQ.out w2 hb2).size)).mono fun e w' ⟨h1, h2⟩ => ⟨h1, hb2.trans (h2.mono hb2.size)⟩
        have HCa : Hid (∀ w2, Below wr.heap.size wr w2 → Calls Tryd.prog 21 #[.slice Aa x.A.length ca] w2 (fun e w' => e = .returned (.int .i64 ta) ∧ Below wr.heap.size wr w')) := Lib.hid fun w2 hb2 => by
          rw [hta]
          exact (HIH.out x.A _ P w2 (hA.below (HQ.out w2 hb2) hP) (lo_up hP (HQ.out w2 hb2).size)).mono fun e w' ⟨h1, h2⟩ => ⟨h1, hb2.trans (h2.mono hb2.size)⟩
        have HCb : Hid (∀ w2, Below wr.heap.size wr w2 → Calls Tryd.prog 21 #[.slice Ab x.B.length cb] w2 (fun e w' => e = .returned (.int .i64 tb) ∧ Below wr.heap.size wr w')) := Lib.hid fun w2 hb2 => by
          rw [htb]
          exact (HIH.out x.B _ P w2 (hB'.below (HQ.out w2 hb2) hP) (lo_up hP (HQ.out w2 hb2).size)).mono fun e w' ⟨h1, h2⟩ => ⟨h1, hb2.trans (h2.mono hb2.size)⟩
        have HU3 := Lib.hid hu3
        have HbB : Hid (b < wr.heap.size) := Lib.hid (lo_up hP hbw.size b hbB)
        have HXs : Hid (∀ w', Below wr.heap.size wr w' → (w'.cell? ⟨b, off + k * 6 + 2, none⟩ = some (.slice Ae x.e.length ce) ∧ w'.cell? ⟨b, off + k * 6 + 3, none⟩ = some (.slice Aa x.A.length ca) ∧ w'.cell? ⟨b, off + k * 6 + 4, none⟩ = some (.slice Ab x.B.length cb))) := Lib.hid fun w' hb => ⟨(hb.cell (p := ⟨b, _, none⟩) (HbB.out)).trans x2, (hb.cell (p := ⟨b, _, none⟩) (HbB.out)).trans x3, (hb.cell (p := ⟨b, _, none⟩) (HbB.out)).trans x4⟩
        clear hsv hte hta htb hu1 hu2 hu3 hat hE hA hB' hbw
        have B1 : Hid (Below wr.heap.size wr wr.drew) := Lib.hid (Below.refl _ _).drew
        have K0 := Lib.hid (HXs.out _ B1.out)
        go_wp2_with fail
        go_region_held3 (fun w' => w'.cell? ⟨b, off + k * 6 + 2, none⟩ = some (.slice Ae x.e.length ce) ∧ w'.cell? ⟨b, off + k * 6 + 3, none⟩ = some (.slice Aa x.A.length ca) ∧ w'.cell? ⟨b, off + k * 6 + 4, none⟩ = some (.slice Ab x.B.length cb))
          (first | (with_reducible exact K0.out) | (with_reducible exact K1.out) | (with_reducible exact K2.out) | (with_reducible exact K3.out))
          (first
          | (go_at_call 45; ((with_reducible refine (HCe.out _ B1.out).mono ?_); rintro e w1 ⟨rfl, hb⟩); have B2 := Lib.hid hb; have K1 := Lib.hid (HXs.out _ hb); clear hb)
          | (go_at_call 21; ((with_reducible refine (HCa.out _ B2.out).mono ?_); rintro e w2 ⟨rfl, hb⟩); have B3 := Lib.hid hb; have K2 := Lib.hid (HXs.out _ hb); clear hb)
          | (go_at_call 21; ((with_reducible refine (HCb.out _ B3.out).mono ?_); rintro e w3 ⟨rfl, hb⟩); have B4 := Lib.hid hb; have K3 := Lib.hid (HXs.out _ hb); clear hb))
        clear g1 g2 g3
        go_wp2_with fail
        go_roundw
        case rel => exact ⟨k + 1, by go_num, hlt, by rw [← HU3.out], HBw.out.trans (B4.out.mono hs)⟩
        case measure => simp [RowKit.intOf]; omega
      · have he : k = m := by omega
        subst he
        have HF : Hid (W64 (k + sumF inS (l.take k)) = W64 (szB l)) := Lib.hid (by rw [HSum.out, ← HM.out, List.take_length])
        go_wp2_with fail
        go_ret
        exact ⟨ret_int HF.out, hbw⟩
end
end Go.Proofs.YtklfcjimgnnlfaaDoor
