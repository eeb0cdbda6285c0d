/- The contracts of hangs, Is, Support. -/
import Derived.Test.YtdgjbbcalffbcaaBCompose
import Derived.Laws.Bits64b
import Derived.Laws.Shifts
import Derived.Laws.ShiftsVar
namespace Go.Proofs.Ytdgjbbcalffbcaa
open Go.RowKit
attribute [local go_sem ↓] Go.wp_at_zero Go.wp_at_succ

theorem bits_or_i64 (a b : Nat) (ha : a < 4096) (hb : b < 4096) : bits .or .i64 (a : Int) (b : Int) = ((a ||| b : Nat) : Int) := by
  have hx : a ||| b < 2 ^ 12 := Nat.or_lt_two_pow (by omega) (by omega)
  have h1 : (BitVec.ofInt 64 (a : Int)).toNat = a := by
    rw [BitVec.ofInt_natCast, BitVec.toNat_ofNat]; exact Nat.mod_eq_of_lt (by omega)
  have h2 : (BitVec.ofInt 64 (b : Int)).toNat = b := by
    rw [BitVec.ofInt_natCast, BitVec.toNat_ofNat]; exact Nat.mod_eq_of_lt (by omega)
  show IntKind.i64.wrap ((BitVec.ofInt 64 (a : Int) ||| BitVec.ofInt 64 (b : Int)).toNat : Int) = _
  rw [BitVec.toNat_or, h1, h2]
  exact IntWalk.i64_in _ (by omega)
/-- What hangs tells. -/
def hangP (L : List Nd) (r : Int) : Int := if InB L.length r then (suppP L r : Nat) else -1
def RetH (x : Int) (own : Nat → Prop) (m lim : Nat) (L : List Nd) (W : World) (e : Ending) (w' : World) : Prop :=
  ∃ own' : Nat → Prop, e = .returned (.int .i64 x) ∧ Mg w' own' m lim L ∧ Went own W own' w'
section
variable {m lim : Nat}
set_option maxRecDepth 100000 in
set_option maxHeartbeats 3200000 in
theorem hangs_out {W : World} {own : Nat → Prop} {L : List Nd} {r : Int} (hM : Mg W own m lim L) (hb : holdsB L.length r = false) : Calls Try.prog 36 #[.pointer (some ⟨m, 0, none⟩), .int .i64 r] W (RetH (hangP L r) own m lim L W) := by
  obtain ⟨p, q, G, c0, c1, -⟩ := mg_at hM
  have HM := Lib.hid hM
  obtain ⟨g, n, c, T, ownA, hR⟩ := G
  have HG : Hid (Calls Try.prog 56 #[.pointer (some ⟨p, 0, none⟩), .int .i64 r] W fun e w' => e = .returned (.tuple #[.agg #[.int .i64 0, .int .i64 0, .int .i64 0], .bool false]) ∧ Below W.heap.size W w') := by
    rcases getB_any (r := r) hR.arena with ⟨-, h⟩ | ⟨k, x, rfl, hx, -⟩
    · exact Lib.hid h
    · exfalso
      have := get_len hx
      unfold holdsB at hb
      simp at hb
      omega
  have hr : ¬ (0 ≤ r ∧ r < (L.length : Int)) := fun ⟨h1, h2⟩ => by unfold holdsB at hb; simp at hb; omega
  by_cases h1 : r = -1
  · subst h1
    have HV : Hid (hangP L (-1) = 0) := Lib.hid (by unfold hangP; rw [if_pos (by unfold InB; omega), supp_out hr]; rfl)
    clear hM hR c1 hb hr
    go_enter Try.func36, Try.ntmps36
    go_wp2_with (go_at_call 56; ((with_reducible refine HG.out.mono ?_); rintro e w1 ⟨rfl, hb1⟩); have HB1 := Lib.hid hb1; clear hb1)
    go_ret
    have hb := HB1.out.alloc HB1.out.size (.cells #[.int .i64 0, .int .i64 0, .int .i64 0] 87)
    rw [HV.out]
    exact ⟨own, rfl, HM.out.below hb, Went.of_below hb own⟩
  by_cases h2 : r = -2
  · subst h2
    have HV : Hid (hangP L (-2) = 0) := Lib.hid (by unfold hangP; rw [if_pos (by unfold InB; omega), supp_out hr]; rfl)
    clear hM hR c1 hb hr
    go_enter Try.func36, Try.ntmps36
    go_wp2_with (go_at_call 56; ((with_reducible refine HG.out.mono ?_); rintro e w1 ⟨rfl, hb1⟩); have HB1 := Lib.hid hb1; clear hb1)
    go_ret
    have hb := HB1.out.alloc HB1.out.size (.cells #[.int .i64 0, .int .i64 0, .int .i64 0] 87)
    rw [HV.out]
    exact ⟨own, rfl, HM.out.below hb, Went.of_below hb own⟩
  · have HV : Hid (hangP L r = -1) := Lib.hid (by unfold hangP; rw [if_neg (by unfold InB; omega)])
    have q1 : (r == -1) = false := by simp [h1]
    have q2 : (r == -2) = false := by simp [h2]
    clear hM hR c1 hb hr
    go_enter Try.func36, Try.ntmps36
    go_wp2_with (go_at_call 56; ((with_reducible refine HG.out.mono ?_); rintro e w1 ⟨rfl, hb1⟩); have HB1 := Lib.hid hb1; clear hb1)
    go_ret
    have hb := HB1.out.alloc HB1.out.size (.cells #[.int .i64 0, .int .i64 0, .int .i64 0] 87)
    rw [HV.out]
    exact ⟨own, rfl, HM.out.below hb, Went.of_below hb own⟩
theorem went_n {w w1 : World} {own own1 : Nat → Prop} (q : Went own w own1 w1) {b : Nat} (hn : ¬ own b) {x y z : Option Value} (h : b < w.heap.size ∧ w.cell? ⟨b, 0, none⟩ = x ∧ w.cell? ⟨b, 1, none⟩ = y ∧ w.cell? ⟨b, 2, none⟩ = z) :
    b < w1.heap.size ∧ w1.cell? ⟨b, 0, none⟩ = x ∧ w1.cell? ⟨b, 1, none⟩ = y ∧ w1.cell? ⟨b, 2, none⟩ = z :=
  ⟨Nat.lt_of_lt_of_le h.1 q.size, (q.cell h.1 hn).trans h.2.1, (q.cell h.1 hn).trans h.2.2.1, (q.cell h.1 hn).trans h.2.2.2⟩
theorem went_k {w w1 : World} {own own1 : Nat → Prop} (hb : Went own w own1 w1) {b m : Nat} (hn : ¬ own b ∧ ¬ own m) {x y z u : Option Value} (h : (b < w.heap.size ∧ m < w.heap.size) ∧ w.cell? ⟨b, 0, none⟩ = x ∧ w.cell? ⟨b, 1, none⟩ = y ∧ w.cell? ⟨b, 2, none⟩ = z ∧ w.cell? ⟨m, 1, none⟩ = u) :
    (b < w1.heap.size ∧ m < w1.heap.size) ∧ w1.cell? ⟨b, 0, none⟩ = x ∧ w1.cell? ⟨b, 1, none⟩ = y ∧ w1.cell? ⟨b, 2, none⟩ = z ∧ w1.cell? ⟨m, 1, none⟩ = u := by
  obtain ⟨⟨h1, h2⟩, c0, c1, c2, c3⟩ := h
  have := hb.size
  exact ⟨⟨by omega, by omega⟩, (hb.cell h1 hn.1).trans c0, (hb.cell h1 hn.1).trans c1, (hb.cell h1 hn.1).trans c2, (hb.cell h2 hn.2).trans c3⟩
/-- What is reckoned of both children. -/
theorem hang_sum {L : List Nd} (hR : RightL L) (hA : AllB L) {k : Nat} {x1 x2 x3 : Int} (hx : L[k]? = some (x1, x2, x3)) :
    bits BinOp.or IntKind.i64 (bits BinOp.or IntKind.i64 (IntKind.i64.wrap (2 ^ x1.toNat)) (hangP L x2)) (hangP L x3) = (suppP L k : Nat) := by
  obtain ⟨h0, -, g1, g2, -, -⟩ := kids hR hA hx
  dsimp only at h0 g1 g2
  have hk := get_len hx
  have e2 : hangP L x2 = (suppP L x2 : Nat) := if_pos (inB_mono g1 (by omega))
  have e3 : hangP L x3 = (suppP L x3 : Nat) := if_pos (inB_mono g2 (by omega))
  have hp : 2 ^ x1.toNat < 2 ^ 12 := Nat.pow_lt_pow_right (by omega) (by omega)
  have l2 := supp_lt hR x2
  have l3 := supp_lt hR x3
  have e1 : IntKind.i64.wrap (2 ^ x1.toNat) = ((2 ^ x1.toNat : Nat) : Int) := by
    have : (2 : Int) ^ x1.toNat = ((2 ^ x1.toNat : Nat) : Int) := (Int.natCast_pow 2 _).symm
    rw [this]
    generalize 2 ^ x1.toNat = N at hp
    exact IntWalk.i64_in _ (by omega)
  rw [e1, e2, e3, bits_or_i64 _ _ (by omega) l2, bits_or_i64 _ _ (Nat.or_lt_two_pow (n := 12) hp l2) l3, supp_node hR hx]
theorem keep_k {w w1 : World} (hb : Below w.heap.size w w1) {b m : Nat} {x y z u : Option Value} (h : (b < w.heap.size ∧ m < w.heap.size) ∧ w.cell? ⟨b, 0, none⟩ = x ∧ w.cell? ⟨b, 1, none⟩ = y ∧ w.cell? ⟨b, 2, none⟩ = z ∧ w.cell? ⟨m, 1, none⟩ = u) :
    (b < w1.heap.size ∧ m < w1.heap.size) ∧ w1.cell? ⟨b, 0, none⟩ = x ∧ w1.cell? ⟨b, 1, none⟩ = y ∧ w1.cell? ⟨b, 2, none⟩ = z ∧ w1.cell? ⟨m, 1, none⟩ = u := by
  obtain ⟨⟨h1, h2⟩, c0, c1, c2, c3⟩ := h
  have := hb.size
  exact ⟨⟨by omega, by omega⟩, (hb.cell (p := ⟨b, 0, none⟩) h1).trans c0, (hb.cell (p := ⟨b, 1, none⟩) h1).trans c1, (hb.cell (p := ⟨b, 2, none⟩) h1).trans c2, (hb.cell (p := ⟨m, 1, none⟩) h2).trans c3⟩
set_option maxRecDepth 100000 in
set_option maxHeartbeats 3200000 in
theorem hangs_node {W : World} {own : Nat → Prop} {L : List Nd} {k : Nat} {x1 x2 x3 : Int} (hM : Mg W own m lim L) (hx : L[k]? = some (x1, x2, x3))
    (h2 : ∀ W own, Mg W own m lim L → Calls Try.prog 36 #[.pointer (some ⟨m, 0, none⟩), .int .i64 x2] W (RetH (hangP L x2) own m lim L W))
    (h3 : ∀ W own, Mg W own m lim L → Calls Try.prog 36 #[.pointer (some ⟨m, 0, none⟩), .int .i64 x3] W (RetH (hangP L x3) own m lim L W)) :
    Calls Try.prog 36 #[.pointer (some ⟨m, 0, none⟩), .int .i64 (k : Int)] W (RetH (hangP L k) own m lim L W) := by
  obtain ⟨p, q, G, c0, c1, hmlt, hmo⟩ := mg_at hM
  have HM := Lib.hid hM
  have HG : Hid (Calls Try.prog 56 #[.pointer (some ⟨p, 0, none⟩), .int .i64 (k : Int)] W fun e w' => e = .returned (.tuple #[.agg #[.int .i64 x1, .int .i64 x2, .int .i64 x3], .bool true]) ∧ Below W.heap.size W w') := by
    obtain ⟨g, n, c, T, ownA, hR⟩ := G
    rcases getB_any (r := (k : Int)) hR.arena with ⟨hb, -⟩ | ⟨j, x, e, hj, h⟩
    · exfalso
      have := get_len hx
      unfold holdsB at hb
      simp at hb
      omega
    · obtain rfl : k = j := by omega
      rw [hx] at hj
      injection hj with hj
      subst hj
      exact Lib.hid h
  have HGG := Lib.hid G
  have HX := Lib.hid hx
  have H2 := Lib.hid h2
  have H3 := Lib.hid h3
  have HC1 := Lib.hid c1
  have hx1 := (hM.right.1 _ _ hx).1
  dsimp only at hx1
  have HMO := Lib.hid hmo
  clear hM hx h2 h3 G c1 hmo
  go_enter Try.func36, Try.ntmps36
  go_wp2_with (go_at_call 56; ((with_reducible refine HG.out.mono ?_); rintro e w1 ⟨rfl, hb1⟩); have HB1 := Lib.hid hb1; clear hb1)
  have s0 : w1.heap.size = w1.heap.size := rfl
  have s1 := size_up s0 (.cells #[.int .i64 x1, .int .i64 x2, .int .i64 x3] 87)
  have hbV : Below W.heap.size W ((w1.alloc (.cells #[.int .i64 x1, .int .i64 x2, .int .i64 x3] 87)).alloc (.cells #[.int .i64 (-7), .int .i64 (k : Int), .int .i64 0] 90)) := ((HB1.out.alloc HB1.out.size (.cells #[.int .i64 x1, .int .i64 x2, .int .i64 x3] 87)).alloc (by rw [s1]; have := HB1.out.size; omega) (.cells #[.int .i64 (-7), .int .i64 (k : Int), .int .i64 0] 90))
  have BN := Lib.hid ((Blk.new_ s0 87 #[.int .i64 x1, .int .i64 x2, .int .i64 x3]).up (.cells #[.int .i64 (-7), .int .i64 (k : Int), .int .i64 0] 90))
  have BK := Lib.hid (Blk.new_ s1 90 #[.int .i64 (-7), .int .i64 (k : Int), .int .i64 0])
  have HBV := Lib.hid hbV
  have K0 : Hid ((w1.heap.size + 1 < ((w1.alloc (.cells #[.int .i64 x1, .int .i64 x2, .int .i64 x3] 87)).alloc (.cells #[.int .i64 (-7), .int .i64 (k : Int), .int .i64 0] 90)).drew.heap.size ∧ m < ((w1.alloc (.cells #[.int .i64 x1, .int .i64 x2, .int .i64 x3] 87)).alloc (.cells #[.int .i64 (-7), .int .i64 (k : Int), .int .i64 0] 90)).drew.heap.size) ∧ ((w1.alloc (.cells #[.int .i64 x1, .int .i64 x2, .int .i64 x3] 87)).alloc (.cells #[.int .i64 (-7), .int .i64 (k : Int), .int .i64 0] 90)).drew.cell? ⟨w1.heap.size + 1, 0, none⟩ = some (.int .i64 (-7)) ∧ ((w1.alloc (.cells #[.int .i64 x1, .int .i64 x2, .int .i64 x3] 87)).alloc (.cells #[.int .i64 (-7), .int .i64 (k : Int), .int .i64 0] 90)).drew.cell? ⟨w1.heap.size + 1, 1, none⟩ = some (.int .i64 (k : Int)) ∧ ((w1.alloc (.cells #[.int .i64 x1, .int .i64 x2, .int .i64 x3] 87)).alloc (.cells #[.int .i64 (-7), .int .i64 (k : Int), .int .i64 0] 90)).drew.cell? ⟨w1.heap.size + 1, 2, none⟩ = some (.int .i64 0) ∧ ((w1.alloc (.cells #[.int .i64 x1, .int .i64 x2, .int .i64 x3] 87)).alloc (.cells #[.int .i64 (-7), .int .i64 (k : Int), .int .i64 0] 90)).drew.cell? ⟨m, 1, none⟩ = some (.pointer (some ⟨q, 0, none⟩))) := Lib.hid (keep_k ((Below.refl _ _).drew) ⟨⟨BK.out.lt, Nat.lt_of_lt_of_le hmlt hbV.size⟩, BK.out.cell 0, BK.out.cell 1, BK.out.cell 2, (hbV.cell (p := ⟨m, 1, none⟩) hmlt).trans HC1.out⟩)
  have HBD : Hid (Below W.heap.size W ((w1.alloc (.cells #[.int .i64 x1, .int .i64 x2, .int .i64 x3] 87)).alloc (.cells #[.int .i64 (-7), .int .i64 (k : Int), .int .i64 0] 90)).drew) := Lib.hid hbV.drew
  have HNO : Hid (¬ own w1.heap.size ∧ ¬ own (w1.heap.size + 1)) := Lib.hid ⟨new_not HM.out HB1.out.size, new_not HM.out (Nat.le_succ_of_le HB1.out.size)⟩
  clear s0 s1 hbV
  rcases mg_get HGG.out (-7) (k : Int) 0 with ⟨val, hko, hc⟩ | ⟨val, hc⟩
  · have HC := Lib.hid hc
    have HV : Hid (hangP L k = val) := Lib.hid (by
      unfold hangP
      rw [if_pos (show InB L.length (k : Int) from ⟨by omega, by have := get_len HX.out; omega⟩)]
      exact (hko.2.1 rfl).symm)
    clear hc hko
    go_region_held3 (fun w => ((w1.heap.size + 1 < w.heap.size ∧ m < w.heap.size) ∧ w.cell? ⟨w1.heap.size + 1, 0, none⟩ = some (.int .i64 (-7)) ∧ w.cell? ⟨w1.heap.size + 1, 1, none⟩ = some (.int .i64 (k : Int)) ∧ w.cell? ⟨w1.heap.size + 1, 2, none⟩ = some (.int .i64 0) ∧ w.cell? ⟨m, 1, none⟩ = some (.pointer (some ⟨q, 0, none⟩))))
      (first | (with_reducible exact K0.out) | (with_reducible exact keep_k hb2 K0.out))
      (first | (go_at_call 57; ((with_reducible refine (HC.out _ HBD.out).mono ?_); rintro e w2 ⟨rfl, hb2⟩)))
    have HB2 := Lib.hid (HBD.out.trans (hb2.mono HBD.out.size))
    clear hb2
    go_wp2_with fail
    go_ret
    rw [HV.out]
    exact ⟨own, rfl, HM.out.below HB2.out, Went.of_below HB2.out own⟩
  · have HC := Lib.hid hc
    clear hc
    go_region_held3 (fun w => ((w1.heap.size + 1 < w.heap.size ∧ m < w.heap.size) ∧ w.cell? ⟨w1.heap.size + 1, 0, none⟩ = some (.int .i64 (-7)) ∧ w.cell? ⟨w1.heap.size + 1, 1, none⟩ = some (.int .i64 (k : Int)) ∧ w.cell? ⟨w1.heap.size + 1, 2, none⟩ = some (.int .i64 0) ∧ w.cell? ⟨m, 1, none⟩ = some (.pointer (some ⟨q, 0, none⟩))))
      (first | (with_reducible exact K0.out) | (with_reducible exact keep_k hb2 K0.out))
      (first | (go_at_call 57; ((with_reducible refine (HC.out _ HBD.out).mono ?_); rintro e w2 ⟨rfl, hb2⟩)))
    have HB2 := Lib.hid (HBD.out.trans (hb2.mono HBD.out.size))
    have BN2 := Lib.hid ((BN.out.below ((Below.refl _ _).drew) BN.out.lt).below hb2 (BN.out.below ((Below.refl _ _).drew) BN.out.lt).lt)
    have BK2 := Lib.hid ((BK.out.below ((Below.refl _ _).drew) BK.out.lt).below hb2 (BK.out.below ((Below.refl _ _).drew) BK.out.lt).lt)
    clear hb2 K0
    go_wp2_with fail
    have hbd : Below w2.heap.size w2 w2.drew := (Below.refl _ _).drew
    have BND := BN2.out.below hbd BN2.out.lt
    have K2 : Hid (w1.heap.size < w2.drew.heap.size ∧ w2.drew.cell? ⟨w1.heap.size, 0, none⟩ = some (.int .i64 x1) ∧ w2.drew.cell? ⟨w1.heap.size, 1, none⟩ = some (.int .i64 x2) ∧ w2.drew.cell? ⟨w1.heap.size, 2, none⟩ = some (.int .i64 x3)) := Lib.hid ⟨BND.lt, BND.cell 0, BND.cell 1, BND.cell 2⟩
    have HM2 := Lib.hid ((HM.out.below HB2.out).below hbd)
    have HW2 := Lib.hid (Went.of_below (HB2.out.trans (hbd.mono HB2.out.size)) own)
    clear hbd BND
    go_region_held3 (fun w => (w1.heap.size < w.heap.size ∧ w.cell? ⟨w1.heap.size, 0, none⟩ = some (.int .i64 x1) ∧ w.cell? ⟨w1.heap.size, 1, none⟩ = some (.int .i64 x2) ∧ w.cell? ⟨w1.heap.size, 2, none⟩ = some (.int .i64 x3)))
      (first | (with_reducible exact K2.out) | (with_reducible exact went_n q4 HN3.out (went_n q3 HNO.out.1 K2.out)) | (with_reducible exact went_n q3 HNO.out.1 K2.out))
      (first
        | (go_at_call 36; ((with_reducible refine (H3.out _ _ HM3.out).mono ?_); rintro e w4 ⟨own4, rfl, m4, q4⟩))
        | (go_at_call 36; ((with_reducible refine (H2.out _ _ HM2.out).mono ?_); rintro e w3 ⟨own3, rfl, m3, q3⟩); have HM3 := Lib.hid m3; have HN3 := Lib.hid (q3.not HNO.out.1 K2.out.1)))
    go_wp2_with fail
    have hE := hang_sum HM.out.right HM.out.bools HX.out
    rw [hE]
    have hkl : InB L.length (k : Int) := ⟨by omega, by have := get_len HX.out; omega⟩
    have HV : Hid (hangP L k = (suppP L k : Nat)) := Lib.hid (if_pos hkl)
    have hko : keyOk L (-7, (k : Int), 0) (suppP L k : Nat) := ⟨⟨by show (-7 : Int) < (L.length : Int); omega, hkl, .inl (by show (-7 : Int) ≤ -7 ∧ (-7 : Int) ≤ -4; omega)⟩, fun _ => rfl, fun h => absurd rfl h⟩
    have HQ := Lib.hid (HW2.out.trans (q3.trans q4))
    have BK4 := (HQ.out.1.trans (Only.refl own4 w4) (fun i hi => HQ.out.2 i hi))
    have qq : Went own w2 own4 w4 := (Went.of_below ((Below.refl _ _).drew) own).trans (q3.trans q4)
    have hB4 := qq.blk BK2.out HNO.out.2
    obtain ⟨p4, q4', G4, -, c4, hm4, hmo4⟩ := mg_at m4
    have hb4 : Below w4.heap.size w4 w4.drew := (Below.refl _ _).drew
    have HP := Lib.hid (mg_put (G4.below hb4) hko)
    have K4 : Hid (((w1.heap.size + 1) < w4.drew.heap.size ∧ m < w4.drew.heap.size) ∧ w4.drew.cell? ⟨w1.heap.size + 1, 0, none⟩ = some (.int .i64 (-7)) ∧ w4.drew.cell? ⟨w1.heap.size + 1, 1, none⟩ = some (.int .i64 (k : Int)) ∧ w4.drew.cell? ⟨w1.heap.size + 1, 2, none⟩ = some (.int .i64 0) ∧ w4.drew.cell? ⟨m, 1, none⟩ = some (.pointer (some ⟨q4', 0, none⟩))) := Lib.hid ⟨⟨hB4.lt, hm4⟩, hB4.cell 0, hB4.cell 1, hB4.cell 2, c4⟩
    have HN4 := Lib.hid (show ¬ own4 (w1.heap.size + 1) ∧ ¬ own4 m from ⟨qq.not HNO.out.2 BK2.out.lt, hmo4⟩)
    have HW4 := Lib.hid (HQ.out.trans (Went.of_below hb4 own4))
    clear hE hkl hko BK4 qq hB4 G4 c4 hmo4 hb4
    go_region_held3 (fun w => (((w1.heap.size + 1) < w.heap.size ∧ m < w.heap.size) ∧ w.cell? ⟨w1.heap.size + 1, 0, none⟩ = some (.int .i64 (-7)) ∧ w.cell? ⟨w1.heap.size + 1, 1, none⟩ = some (.int .i64 (k : Int)) ∧ w.cell? ⟨w1.heap.size + 1, 2, none⟩ = some (.int .i64 0) ∧ w.cell? ⟨m, 1, none⟩ = some (.pointer (some ⟨q4', 0, none⟩))))
      (first | (with_reducible exact K4.out) | (with_reducible exact went_k q5 HN4.out K4.out))
      (first | (go_at_call 58; ((with_reducible refine HP.out.mono ?_); rintro e w5 ⟨⟨u, rfl⟩, m5, q5⟩)))
    go_wp2_with fail
    go_ret
    rw [HV.out]
    exact ⟨own4, rfl, m5, HW4.out.trans q5⟩
theorem hangs_any {L : List Nd} : ∀ (n : Nat) (r : Int), r < n → ∀ W own, Mg W own m lim L → Calls Try.prog 36 #[.pointer (some ⟨m, 0, none⟩), .int .i64 r] W (RetH (hangP L r) own m lim L W) := by
  intro n
  induction n with
  | zero => intro r hr W own hM; exact hangs_out hM (by unfold holdsB; simp; omega)
  | succ n ih =>
    intro r hr W own hM
    cases hb : holdsB L.length r
    · exact hangs_out hM hb
    · obtain ⟨k, ⟨x1, x2, x3⟩, rfl, hx, -⟩ := holds_at hb
      obtain ⟨-, -, g1, g2, -⟩ := kids hM.right hM.bools hx
      dsimp only at g1 g2
      exact hangs_node hM hx (ih x2 (by unfold InB at g1; omega)) (ih x3 (by unfold InB at g2; omega))
theorem isB_any {W : World} {own : Nat → Prop} {L : List Nd} (hM : Mg W own m lim L) (r : Int) : Calls Try.prog 27 #[.pointer (some ⟨m, 0, none⟩), .int .i64 r] W fun e w' => ∃ own' : Nat → Prop, e = .returned (.bool (decide (InB L.length r))) ∧ Mg w' own' m lim L ∧ Went own W own' w' := by
  have HH := Lib.hid (hangs_any (r + 1).toNat r (by omega) W own hM)
  by_cases h : InB L.length r
  · have e : hangP L r = (suppP L r : Nat) := if_pos h
    rw [e] at HH
    rw [decide_eq_true h]
    clear hM h e
    go_enter Try.func27, Try.ntmps27
    go_wp2_with (go_at_call 36; ((with_reducible refine HH.out.mono ?_); rintro e w1 ⟨own1, rfl, m1, q1⟩))
    go_ret
    exact ⟨own1, by simp, m1, q1⟩
  · have e : hangP L r = -1 := if_neg h
    rw [e] at HH
    rw [decide_eq_false h]
    clear hM h e
    go_enter Try.func27, Try.ntmps27
    go_wp2_with (go_at_call 36; ((with_reducible refine HH.out.mono ?_); rintro e w1 ⟨own1, rfl, m1, q1⟩))
    go_ret
    exact ⟨own1, rfl, m1, q1⟩
theorem support_any {W : World} {own : Nat → Prop} {L : List Nd} (hM : Mg W own m lim L) (r : Int) : Calls Try.prog 18 #[.pointer (some ⟨m, 0, none⟩), .int .i64 r] W fun e w' => ∃ own' : Nat → Prop, e = .returned (.int .u64 (suppP L r : Nat)) ∧ Mg w' own' m lim L ∧ Went own W own' w' := by
  have HH := Lib.hid (hangs_any (r + 1).toNat r (by omega) W own hM)
  have hl := supp_lt hM.right r
  have hw : IntKind.u64.wrap (max (hangP L r) 0) = (suppP L r : Nat) := by
    by_cases h : InB L.length r
    · rw [show hangP L r = (suppP L r : Nat) from if_pos h, Int.max_eq_left (by omega), IntKind.wrap_u64]
      omega
    · rw [show hangP L r = -1 from if_neg h, supp_out (fun g => h ⟨by omega, g.2⟩)]
      rfl
  have HW := Lib.hid hw
  clear hM hl hw
  go_enter Try.func18, Try.ntmps18
  go_wp2_with (go_at_call 36; ((with_reducible refine HH.out.mono ?_); rintro e w1 ⟨own1, rfl, m1, q1⟩))
  go_ret
  exact ⟨own1, by rw [← HW.out]; rfl, m1, q1⟩
end
end Go.Proofs.Ytdgjbbcalffbcaa
