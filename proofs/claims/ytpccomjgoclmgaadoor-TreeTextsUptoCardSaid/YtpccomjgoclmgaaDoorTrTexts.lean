/- TreeTexts: the walk. -/
import Derived.Test.YtpccomjgoclmgaaDoorTrBound
import Derived.Test.YtpccomjgoclmgaaDoorTrRefW
import Derived.Test.YtpccomjgoclmgaaDoorTrAlive
import Derived.Deep.RegionHeld3
namespace Go.Proofs.YtpccomjgoclmgaaDoor
open Go.RowKit
set_option maxRecDepth 100000 in
set_option maxHeartbeats 12800000 in
theorem texts_walk (n : Nat) (x : Ex) (L : Value) (W : World) (ht : Tabs W) (hn : In64 x.n) (ha : In64 x.a) (h : ExR (fun b => b < W.heap.size) n W x.l L) (hc : costE x ≤ 1048576) :
    Calls Tryd.prog 3 #[exV x.op x.nm x.n L x.a] W fun e w' => e = .returned (.bool true) ∧ Below W.heap.size W w' := by
  obtain ⟨A, cap, rfl, hcap, -⟩ := h.slice
  obtain ⟨W1, hW1⟩ : ∃ W1, W1 = W.alloc (.cells #[.string x.op, .string x.nm, .int .i64 x.n, .slice A x.l.length cap, .int .i64 x.a] 24) := ⟨_, rfl⟩
  have B1 : Hid (Below W.heap.size W W1) := Lib.hid (by rw [hW1]; exact (Below.refl _ _).alloc (Nat.le_refl _) _)
  have K1 : Hid (Blk W1 W.heap.size 24 #[.string x.op, .string x.nm, .int .i64 x.n, .slice A x.l.length cap, .int .i64 x.a]) := Lib.hid (by rw [hW1]; exact Blk.new W _ _)
  have HW1 := Lib.hid hW1
  clear hW1
  have HL : Hid (∀ w', Below W1.heap.size W1 w' → (w'.cell? ⟨W.heap.size, 0, none⟩ = some (.string x.op) ∧ w'.cell? ⟨W.heap.size, 1, none⟩ = some (.string x.nm) ∧ w'.cell? ⟨W.heap.size, 2, none⟩ = some (.int .i64 x.n) ∧ w'.cell? ⟨W.heap.size, 3, none⟩ = some (.slice A x.l.length cap) ∧ w'.cell? ⟨W.heap.size, 4, none⟩ = some (.int .i64 x.a))) := Lib.hid fun w' hb => ⟨(K1.out.below hb K1.out.lt).cell 0, (K1.out.below hb K1.out.lt).cell 1, (K1.out.below hb K1.out.lt).cell 2, (K1.out.below hb K1.out.lt).cell 3, (K1.out.below hb K1.out.lt).cell 4⟩
  have HR : Hid (ExR (fun b => b < W.heap.size) n W x.l (.slice A x.l.length cap)) := Lib.hid h
  have HA : Hid (∀ w', Below W.heap.size W w' → Calls Tryd.prog 10 #[] w' (fun e w2 => e = .returned (.bool true) ∧ Below w'.heap.size w' w2)) := Lib.hid fun w' hb => alive_any w' (ht.stays hb)
  obtain ⟨bx, hbx⟩ : ∃ bx, bx = wholeE x := ⟨_, rfl⟩
  have HWh : Hid (∀ w', Below W.heap.size W w' → Calls Tryd.prog 8 #[exV x.op x.nm x.n (.slice A x.l.length cap) x.a] w' (fun e w2 => e = .returned (.bool bx) ∧ Below w'.heap.size w' w2)) := Lib.hid fun w' hb => by
    rw [hbx, wholeE_X]
    exact rwhole_any n _ x.l _ x.op x.nm x.n x.a w' (HR.out.below hb (fun b h => h)) (lo_up (fun b h => h) hb.size)
  have x1 := HL.out _ (Below.refl _ _)
  obtain ⟨x10, x11, x12, x13, x14⟩ := x1
  have HBX := Lib.hid hbx
  have HTx : Hid (wholeE x = true → ∀ w', Below W.heap.size W w' → Calls Tryd.prog 13 #[exV x.op x.nm x.n (.slice A x.l.length cap) x.a] w' (fun e w2 => e = .returned (.string ⟨(form Lib.itoa x.op x.nm x.n (tL x.l)).toArray⟩) ∧ Below w'.heap.size w' w2)) := Lib.hid fun hw w' hb => by
    rw [wholeE_X, Bool.and_eq_true] at hw
    exact (rtext_any n).1 _ x.l _ x.op x.nm x.n x.a w' (HR.out.below hb (fun b h => h)) (lo_up (fun b h => h) hb.size) hn hw.1 hw.2 (text_len h hn hc)
  have HRD : Hid (∀ w', Below W.heap.size W w' → Calls Tryd.prog 15 #[exV x.op x.nm x.n (.slice A x.l.length cap) x.a] w' (fun e w2 => e = .returned (.int .i64 ((1 + deepL x.l : Nat) : Int)) ∧ Below w'.heap.size w' w2)) := Lib.hid fun w' hb => by
    exact rdeep_any n x.l x.op x.nm x.n x.a _ _ w' (HR.out.below hb (fun b h => h)) (lo_up (fun b h => h) hb.size) (by have := deepL_sz.2 x.l; have := szL_cost.2 x.l; rw [costE_X] at hc; omega)
  have HX1 : Hid (∀ w', Below W.heap.size W w' → Calls Tryd.prog 11 #[exV x.op x.nm x.n (.slice A x.l.length cap) x.a] w' (RetEx x.op x.nm x.n x.a n x.l w')) := Lib.hid fun w' hb => by
    exact expr_any n x.l x.op x.nm x.n x.a _ _ w' (HR.out.below hb (fun b h => h)) (lo_up (fun b h => h) hb.size)
  have HFT : Hid (∀ v w', ExR (fun b => b < w'.heap.size) n w' x.l v → Tabs w' → Calls Tryd.prog 12 #[exV x.op x.nm x.n v x.a] w' (fun e w2 => e = .returned (.string ⟨(form Lib.itoa x.op x.nm x.n (tL x.l)).toArray⟩) ∧ Below w'.heap.size w' w2)) := Lib.hid fun v w' hr htb => by
    exact text_any n x.l x.op x.nm x.n x.a v _ w' hr (fun b h => h) htb hn (text_len h hn hc)
  have HFD : Hid (∀ v w', ExR (fun b => b < w'.heap.size) n w' x.l v → Calls Tryd.prog 14 #[exV x.op x.nm x.n v x.a] w' (fun e w2 => e = .returned (.int .i64 ((1 + deepL x.l : Nat) : Int)) ∧ Below w'.heap.size w' w2)) := Lib.hid fun v w' hr => by
    exact deep_any n x.l x.op x.nm x.n x.a v _ w' hr (fun b h => h) (by have := deepL_sz.2 x.l; have := szL_cost.2 x.l; rw [costE_X] at hc; omega)
  obtain ⟨sz, hsz⟩ : ∃ sz : Nat, sz = szB [St.mk ⟨#[]⟩ ⟨#[]⟩ [x] [] [] 0] := ⟨_, rfl⟩
  have hszle : (sz : Int) ≤ 2097152 := by
    have e : szB [St.mk ⟨#[]⟩ ⟨#[]⟩ [x] [] [] 0] = 1 + (szE x + 0) + 0 + 0 + 0 := rfl
    have := szL_cost.1 x
    omega
  have HSZ : Hid (∀ w', Below W.heap.size W w' → Calls Tryd.prog 9 #[.slice (some ⟨w'.heap.size + 1, 0, none⟩) 1 1] ((w'.alloc (.cells #[.string x.op, .string x.nm, .int .i64 x.n, .slice A x.l.length cap, .int .i64 x.a] 24)).alloc (.cells #[.string ⟨#[]⟩, .string ⟨#[]⟩, .slice (some ⟨w'.heap.size, 0, none⟩) 1 1, .slice none 0 0, .slice none 0 0, .int .i64 0] 29)) (fun e w2 => e = .returned (.int .i64 (sz : Int)) ∧ Below w'.heap.size w' w2)) := Lib.hid fun w' hb => by
    obtain ⟨Wa, hWa⟩ : ∃ Wa, Wa = w'.alloc (.cells #[.string x.op, .string x.nm, .int .i64 x.n, .slice A x.l.length cap, .int .i64 x.a] 24) := ⟨_, rfl⟩
    have ka : Blk Wa w'.heap.size 24 #[.string x.op, .string x.nm, .int .i64 x.n, .slice A x.l.length cap, .int .i64 x.a] := by rw [hWa]; exact Blk.new _ _ _
    have ba : Below w'.heap.size w' Wa := by rw [hWa]; exact (Below.refl _ _).alloc (Nat.le_refl _) _
    have sa : Wa.heap.size = w'.heap.size + 1 := by rw [hWa, World.size_alloc]
    rw [← hWa]
    obtain ⟨Wb, hWb⟩ : ∃ Wb, Wb = Wa.alloc (.cells #[.string ⟨#[]⟩, .string ⟨#[]⟩, .slice (some ⟨w'.heap.size, 0, none⟩) 1 1, .slice none 0 0, .slice none 0 0, .int .i64 0] 29) := ⟨_, rfl⟩
    have kb : Blk Wb (w'.heap.size + 1) 29 #[.string ⟨#[]⟩, .string ⟨#[]⟩, .slice (some ⟨w'.heap.size, 0, none⟩) 1 1, .slice none 0 0, .slice none 0 0, .int .i64 0] := by rw [hWb, ← sa]; exact Blk.new _ _ _
    have bb : Below Wa.heap.size Wa Wb := by rw [hWb]; exact (Below.refl _ _).alloc (Nat.le_refl _) _
    have sb : Wb.heap.size = w'.heap.size + 2 := by rw [hWb, World.size_alloc, sa]
    rw [← hWb]
    have hE : ExR (fun b => b < Wb.heap.size) (n + 1) Wb [x] (.slice (some ⟨w'.heap.size, 0, none⟩) 1 1) := exR_one (ka.below bb ka.lt) (by show w'.heap.size < Wb.heap.size; omega) hn ha (((HR.out.below (thru (thru hb ba) bb) (fun b h => h)).wide (fun b hlt => by have := hb.size; show b < Wb.heap.size; have : b < W.heap.size := hlt; omega)))
    have hS : StR (fun b => b < Wb.heap.size) (n + 2) Wb [St.mk ⟨#[]⟩ ⟨#[]⟩ [x] [] [] 0] (.slice (some ⟨w'.heap.size + 1, 0, none⟩) 1 1) := stR_one kb (by show w'.heap.size + 1 < Wb.heap.size; omega) (show In64 0 from ⟨by decide, by decide⟩) hE stR_nil stR_nil
    have q := rSize_any (n + 2) _ _ _ Wb hS (fun b h => h)
    rw [← hsz, W64_len (by omega)] at q
    exact q.mono fun e w2 ⟨h1, h2⟩ => ⟨h1, thru (thru ba bb) h2⟩
  have HIn := Lib.hid (And.intro hn ha)
  have HT := Lib.hid ht
  clear hsz hc h hn ha ht hbx
  cases bx
  · go_enter Tryd.func3, Tryd.ntmps3
    go_upto_region 1 with fail
    rw [← HW1.out]
    go_wp2_with (first
      | (go_at_call 8; have HX := HWh.out _ B1.out; (with_reducible refine HX.mono ?_); clear HX; rintro e w2 ⟨rfl, hb⟩; have B2 := Lib.hid (thru B1.out hb); clear hb)
      | (go_at_call 10; have HX := HA.out _ B2.out; (with_reducible refine HX.mono ?_); clear HX; rintro e w3 ⟨rfl, hb⟩; have B3 := Lib.hid (thru B2.out hb); clear hb))
    go_ret
    exact ⟨rfl, B3.out⟩
  · have HTx2 := Lib.hid (HTx.out HBX.out.symm)
    clear HTx HBX
    by_cases hgt : (300 : Int) < (sz : Int)
    · go_enter Tryd.func3, Tryd.ntmps3
      go_upto_region 1 with fail
      rw [← HW1.out]
      go_wp2_with (first
        | (go_at_call 8; have HX := HWh.out _ B1.out; (with_reducible refine HX.mono ?_); clear HX; rintro e w2 ⟨rfl, hb⟩; have B2 := Lib.hid (thru B1.out hb); obtain ⟨y10, y11, y12, y13, y14⟩ := HL.out _ hb; clear hb x10 x11 x12 x13 x14)
        | (go_at_call 9; have HX := HSZ.out _ B2.out; (with_reducible refine HX.mono ?_); clear HX; rintro e w3 ⟨rfl, hb⟩; have B3 := Lib.hid (thru B2.out hb); clear hb)
        | (go_at_call 10; have HX := HA.out _ B3.out; (with_reducible refine HX.mono ?_); clear HX; rintro e w4 ⟨rfl, hb⟩; have B4 := Lib.hid (thru B3.out hb); clear hb))
      go_ret
      exact ⟨rfl, B4.out⟩
    · go_enter Tryd.func3, Tryd.ntmps3
      go_upto_region 1 with fail
      rw [← HW1.out]
      go_wp2_with (first
        | (go_at_call 8; have HX := HWh.out _ B1.out; (with_reducible refine HX.mono ?_); clear HX; rintro e w2 ⟨rfl, hb⟩; have B2 := Lib.hid (thru B1.out hb); obtain ⟨y10, y11, y12, y13, y14⟩ := HL.out _ hb; have Q2 := Lib.hid hb; clear hb x10 x11 x12 x13 x14)
        | (go_at_call 9; have HX := HSZ.out _ B2.out; (with_reducible refine HX.mono ?_); clear HX; rintro e w3 ⟨rfl, hb⟩; have B3 := Lib.hid (thru B2.out hb); have Q3 := Lib.hid (thru Q2.out hb); obtain ⟨z10, z11, z12, z13, z14⟩ := HL.out _ Q3.out; clear hb y10 y11 y12 y13 y14)
        | (go_at_call 11; have HX := HX1.out _ B3.out; (with_reducible refine HX.mono ?_); clear HX; rintro e w4 ⟨v4, rfl, hr4, hb⟩; obtain ⟨A4, c4, rfl, -, -⟩ := hr4.slice; have B4 := Lib.hid (thru B3.out hb); have Q4 := Lib.hid (thru Q3.out hb); have R4 := Lib.hid hr4; clear hb hr4 z10 z11 z12 z13 z14))
      obtain ⟨W5, hW5⟩ : ∃ W5, W5 = w4.alloc (.cells #[.string x.op, .string x.nm, .int .i64 x.n, .slice A4 x.l.length c4, .int .i64 x.a] 33) := ⟨_, rfl⟩
      have b5 : Below w4.heap.size w4 W5 := by rw [hW5]; exact (Below.refl _ _).alloc (Nat.le_refl _) _
      have K5 : Hid (Blk W5 w4.heap.size 33 #[.string x.op, .string x.nm, .int .i64 x.n, .slice A4 x.l.length c4, .int .i64 x.a]) := Lib.hid (by rw [hW5]; exact Blk.new w4 _ _)
      have B5 := Lib.hid (thru B4.out b5)
      have Q5 := Lib.hid (thru Q4.out b5)
      have HS : Hid (∀ w', Below W5.heap.size W5 w' → (w'.cell? ⟨W.heap.size, 0, none⟩ = some (.string x.op) ∧ w'.cell? ⟨W.heap.size, 1, none⟩ = some (.string x.nm) ∧ w'.cell? ⟨W.heap.size, 2, none⟩ = some (.int .i64 x.n) ∧ w'.cell? ⟨W.heap.size, 3, none⟩ = some (.slice A x.l.length cap) ∧ w'.cell? ⟨W.heap.size, 4, none⟩ = some (.int .i64 x.a)) ∧ w'.cell? ⟨w4.heap.size, 0, none⟩ = some (.string x.op) ∧ w'.cell? ⟨w4.heap.size, 1, none⟩ = some (.string x.nm) ∧ w'.cell? ⟨w4.heap.size, 2, none⟩ = some (.int .i64 x.n) ∧ w'.cell? ⟨w4.heap.size, 3, none⟩ = some (.slice A4 x.l.length c4) ∧ w'.cell? ⟨w4.heap.size, 4, none⟩ = some (.int .i64 x.a)) := Lib.hid fun w' hb => ⟨HL.out w' (thru Q5.out hb), (K5.out.below hb K5.out.lt).cell 0, (K5.out.below hb K5.out.lt).cell 1, (K5.out.below hb K5.out.lt).cell 2, (K5.out.below hb K5.out.lt).cell 3, (K5.out.below hb K5.out.lt).cell 4⟩
      have D0 : Hid (Below W5.heap.size W5 W5.drew) := Lib.hid (Below.refl _ _).drew
      have HR5 : Hid (∀ w', Below W5.heap.size W5 w' → ExR (fun b => b < w'.heap.size) n w' x.l (.slice A4 x.l.length c4)) := Lib.hid fun w' hb => by
        have q : Below w4.heap.size w4 w' := thru b5 hb
        exact (R4.out.below q (fun b h => h.2)).wide (fun b h => Nat.lt_of_lt_of_le h.2 q.size)
      have HA5 : Hid (∀ w', Below W5.heap.size W5 w' → Calls Tryd.prog 10 #[] w' (fun e w2 => e = .returned (.bool true) ∧ Below W5.heap.size W5 w2)) := Lib.hid fun w' hb => (HA.out w' (thru B5.out hb)).mono fun e w2 ⟨h1, h2⟩ => ⟨h1, thru hb h2⟩
      have HT5 : Hid (∀ w', Below W5.heap.size W5 w' → Calls Tryd.prog 12 #[exV x.op x.nm x.n (.slice A4 x.l.length c4) x.a] w' (fun e w2 => e = .returned (.string ⟨(form Lib.itoa x.op x.nm x.n (tL x.l)).toArray⟩) ∧ Below W5.heap.size W5 w2)) := Lib.hid fun w' hb => (HFT.out _ w' (HR5.out w' hb) (HT.out.stays (thru B5.out hb))).mono fun e w2 ⟨h1, h2⟩ => ⟨h1, thru hb h2⟩
      have HU5 : Hid (∀ w', Below W5.heap.size W5 w' → Calls Tryd.prog 13 #[exV x.op x.nm x.n (.slice A x.l.length cap) x.a] w' (fun e w2 => e = .returned (.string ⟨(form Lib.itoa x.op x.nm x.n (tL x.l)).toArray⟩) ∧ Below W5.heap.size W5 w2)) := Lib.hid fun w' hb => (HTx2.out w' (thru B5.out hb)).mono fun e w2 ⟨h1, h2⟩ => ⟨h1, thru hb h2⟩
      have HD5 : Hid (∀ w', Below W5.heap.size W5 w' → Calls Tryd.prog 14 #[exV x.op x.nm x.n (.slice A4 x.l.length c4) x.a] w' (fun e w2 => e = .returned (.int .i64 ((1 + deepL x.l : Nat) : Int)) ∧ Below W5.heap.size W5 w2)) := Lib.hid fun w' hb => (HFD.out _ w' (HR5.out w' hb)).mono fun e w2 ⟨h1, h2⟩ => ⟨h1, thru hb h2⟩
      have HE5 : Hid (∀ w', Below W5.heap.size W5 w' → Calls Tryd.prog 15 #[exV x.op x.nm x.n (.slice A x.l.length cap) x.a] w' (fun e w2 => e = .returned (.int .i64 ((1 + deepL x.l : Nat) : Int)) ∧ Below W5.heap.size W5 w2)) := Lib.hid fun w' hb => (HRD.out w' (thru B5.out hb)).mono fun e w2 ⟨h1, h2⟩ => ⟨h1, thru hb h2⟩
      have S0 := Lib.hid (HS.out _ D0.out)
      obtain ⟨T, hT⟩ : ∃ T : ByteArray, T = ⟨(form Lib.itoa x.op x.nm x.n (tL x.l)).toArray⟩ := ⟨_, rfl⟩
      obtain ⟨dd, hdd⟩ : ∃ dd : Nat, dd = 1 + deepL x.l := ⟨_, rfl⟩
      rw [← hT] at HT5 HU5
      rw [← hdd] at HD5 HE5
      have HW5 := Lib.hid hW5
      clear hT hdd hW5 b5
      rw [← HW5.out]
      go_region_held3 (fun w' => (w'.cell? ⟨W.heap.size, 0, none⟩ = some (.string x.op) ∧ w'.cell? ⟨W.heap.size, 1, none⟩ = some (.string x.nm) ∧ w'.cell? ⟨W.heap.size, 2, none⟩ = some (.int .i64 x.n) ∧ w'.cell? ⟨W.heap.size, 3, none⟩ = some (.slice A x.l.length cap) ∧ w'.cell? ⟨W.heap.size, 4, none⟩ = some (.int .i64 x.a)) ∧ w'.cell? ⟨w4.heap.size, 0, none⟩ = some (.string x.op) ∧ w'.cell? ⟨w4.heap.size, 1, none⟩ = some (.string x.nm) ∧ w'.cell? ⟨w4.heap.size, 2, none⟩ = some (.int .i64 x.n) ∧ w'.cell? ⟨w4.heap.size, 3, none⟩ = some (.slice A4 x.l.length c4) ∧ w'.cell? ⟨w4.heap.size, 4, none⟩ = some (.int .i64 x.a))
        (first | (with_reducible exact S0.out) | (with_reducible exact S1.out) | (with_reducible exact S2.out) | (with_reducible exact S3.out) | (with_reducible exact S4.out) | (with_reducible exact S5.out))
        (first
        | (go_at_call 10; have HX := HA5.out _ D0.out; (with_reducible refine HX.mono ?_); clear HX; rintro e v1 ⟨rfl, hb⟩; have D1 := Lib.hid hb; have S1 := Lib.hid (HS.out _ hb); clear hb)
        | (go_at_call 12; have HX := HT5.out _ D1.out; (with_reducible refine HX.mono ?_); clear HX; rintro e v2 ⟨rfl, hb⟩; have D2 := Lib.hid hb; have S2 := Lib.hid (HS.out _ hb); clear hb)
        | (go_at_call 13; have HX := HU5.out _ D2.out; (with_reducible refine HX.mono ?_); clear HX; rintro e v3 ⟨rfl, hb⟩; have D3 := Lib.hid hb; have S3 := Lib.hid (HS.out _ hb); clear hb)
        | (go_at_call 14; have HX := HD5.out _ D3.out; (with_reducible refine HX.mono ?_); clear HX; rintro e v4 ⟨rfl, hb⟩; have D4 := Lib.hid hb; have S4 := Lib.hid (HS.out _ hb); clear hb)
        | (go_at_call 15; have HX := HE5.out _ D4.out; (with_reducible refine HX.mono ?_); clear HX; rintro e v5 ⟨rfl, hb⟩; have D5 := Lib.hid hb; have S5 := Lib.hid (HS.out _ hb); clear hb))
      all_goals go_wp2_with fail
      all_goals go_ret
      all_goals exact ⟨rfl, thru B5.out D5.out⟩
end Go.Proofs.YtpccomjgoclmgaaDoor
