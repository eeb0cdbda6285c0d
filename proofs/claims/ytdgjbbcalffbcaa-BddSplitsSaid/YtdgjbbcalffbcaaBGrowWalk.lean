/- The contract of grow, whatever both halves are reckoned by: the walk. -/
import Derived.Test.YtdgjbbcalffbcaaBGrow
import Derived.Shelf.Abstract
namespace Go.Proofs.Ytdgjbbcalffbcaa
open Go.RowKit
attribute [local go_sem ↓] Go.wp_at_zero Go.wp_at_succ

theorem keep_key {W w1 w2 : World} (hb : Below w1.heap.size w1 w2) {m : Nat} {x y z u : Option Value} (h : Below W.heap.size W w1 ∧ W.heap.size < w1.heap.size ∧ m < w1.heap.size ∧ w1.cell? ⟨W.heap.size, 0, none⟩ = x ∧ w1.cell? ⟨W.heap.size, 1, none⟩ = y ∧ w1.cell? ⟨W.heap.size, 2, none⟩ = z ∧ w1.cell? ⟨m, 1, none⟩ = u) :
    Below W.heap.size W w2 ∧ W.heap.size < w2.heap.size ∧ m < w2.heap.size ∧ w2.cell? ⟨W.heap.size, 0, none⟩ = x ∧ w2.cell? ⟨W.heap.size, 1, none⟩ = y ∧ w2.cell? ⟨W.heap.size, 2, none⟩ = z ∧ w2.cell? ⟨m, 1, none⟩ = u := by
  obtain ⟨h0, h1, h2, h3, h4, h5, h6⟩ := h
  have hs := hb.size
  exact ⟨h0.trans (hb.mono h0.size), by omega, by omega, (hb.cell (p := ⟨W.heap.size, 0, none⟩) h1).trans h3, (hb.cell (p := ⟨W.heap.size, 1, none⟩) h1).trans h4, (hb.cell (p := ⟨W.heap.size, 2, none⟩) h1).trans h5, (hb.cell (p := ⟨m, 1, none⟩) h2).trans h6⟩
section
variable {W : World} {own : Nat → Prop} {m lim : Nat} {L : List Nd}
set_option maxRecDepth 100000 in
set_option maxHeartbeats 3200000 in
theorem grow_known (h : Mg W own m lim L) {k1 k2 k3 val : Int} {v : Nat} {fv : Value} (h7 : k1 ≠ -7) (hk : keyOk L (k1, k2, k3) val)
    (hg : ∀ q, W.cell? ⟨m, 1, none⟩ = some (.pointer (some ⟨q, 0, none⟩)) → ∀ w1, Below W.heap.size W w1 → Calls Try.prog 57 #[.pointer (some ⟨q, 0, none⟩), .agg #[.int .i64 k1, .int .i64 k2, .int .i64 k3]] w1 fun e w' => e = .returned (.tuple #[.int .i64 val, .bool true]) ∧ Below w1.heap.size w1 w') :
    Calls Try.prog 62 #[.pointer (some ⟨m, 0, none⟩), .agg #[.int .i64 k1, .int .i64 k2, .int .i64 k3], .int .i64 v, fv] W (RetOp (keyF L (k1, k2, k3)) v own m lim L W) := by
  have HM := Lib.hid h
  obtain ⟨p, q, -, -, c1, hm, -⟩ := mg_at h
  have HG := Lib.hid (hg q c1)
  have HK := Lib.hid (hk.2.2 h7)
  have hb0 : Below W.heap.size W (W.alloc (.cells #[.int .i64 k1, .int .i64 k2, .int .i64 k3] 90)) := (Below.refl _ _).alloc (Nat.le_refl _) _
  have hB := Blk.new W 90 #[.int .i64 k1, .int .i64 k2, .int .i64 k3]
  have K0 : Hid (Below W.heap.size W (W.alloc (.cells #[.int .i64 k1, .int .i64 k2, .int .i64 k3] 90)).drew ∧ W.heap.size < (W.alloc (.cells #[.int .i64 k1, .int .i64 k2, .int .i64 k3] 90)).drew.heap.size ∧ m < (W.alloc (.cells #[.int .i64 k1, .int .i64 k2, .int .i64 k3] 90)).drew.heap.size ∧ (W.alloc (.cells #[.int .i64 k1, .int .i64 k2, .int .i64 k3] 90)).drew.cell? ⟨W.heap.size, 0, none⟩ = some (.int .i64 k1) ∧ (W.alloc (.cells #[.int .i64 k1, .int .i64 k2, .int .i64 k3] 90)).drew.cell? ⟨W.heap.size, 1, none⟩ = some (.int .i64 k2) ∧ (W.alloc (.cells #[.int .i64 k1, .int .i64 k2, .int .i64 k3] 90)).drew.cell? ⟨W.heap.size, 2, none⟩ = some (.int .i64 k3) ∧ (W.alloc (.cells #[.int .i64 k1, .int .i64 k2, .int .i64 k3] 90)).drew.cell? ⟨m, 1, none⟩ = some (.pointer (some ⟨q, 0, none⟩))) :=
    Lib.hid ⟨hb0.drew, hB.lt, Nat.lt_of_lt_of_le hm hb0.size, hB.cell 0, hB.cell 1, hB.cell 2, (hb0.cell (p := ⟨m, 1, none⟩) hm).trans c1⟩
  clear h hg hk hb0 hB c1
  go_enter Try.func62, Try.ntmps62
  go_wp2_with fail
  go_region_held3 (fun w' => (Below W.heap.size W w' ∧ W.heap.size < w'.heap.size ∧ m < w'.heap.size ∧ w'.cell? ⟨W.heap.size, 0, none⟩ = some (.int .i64 k1) ∧ w'.cell? ⟨W.heap.size, 1, none⟩ = some (.int .i64 k2) ∧ w'.cell? ⟨W.heap.size, 2, none⟩ = some (.int .i64 k3) ∧ w'.cell? ⟨m, 1, none⟩ = some (.pointer (some ⟨q, 0, none⟩))))
    (first | (with_reducible exact K0.out) | (with_reducible exact keep_key hb1 K0.out))
    (first | (go_at_call 57; ((with_reducible refine (HG.out _ K0.out.1).mono ?_); rintro e w1 ⟨rfl, hb1⟩)))
  have HB := Lib.hid (K0.out.1.trans (hb1.mono K0.out.1.size))
  clear hb1
  go_wp2_with fail
  go_ret2
  exact ⟨own, L, HM.out.below HB.out, Went.of_below HB.out own, grew_refl v L, told_ref HK.out⟩

theorem halves {w : World} {own3 : Nat → Prop} {L2 L3 : List Nd} {v : Nat} {r2 r3 : Int} {G : Bool → Nat → Bool} (h3 : Mg w own3 m lim L3) (hR2 : RightL L2) (g3 : Grew (v + 1) L2 L3) (hv : v < 12) (t2 : Tells L2 (G false) r2) (t3 : Tells L3 (G true) r3) (hI : ∀ on (b c : Nat), (∀ i, v + 1 ≤ i → b.testBit i = c.testBit i) → G on b = G on c) :
    Tells L3 (G false) r2 ∧ (v : Int) < varP L3 r2 ∧ (v : Int) < varP L3 r3 := by
  obtain ⟨M, rfl⟩ := g3.more
  have t2' := tells_more hR2 M t2
  have e2 := tells_top h3.right h3.bools t2' (show v + 1 ≤ 12 by omega) (hI false)
  have e3 := tells_top h3.right h3.bools t3 (show v + 1 ≤ 12 by omega) (hI true)
  exact ⟨t2', by omega, by omega⟩
theorem put_keep {w w5 : World} {own own5 : Nat → Prop} {s m : Nat} {x y z u : Option Value} (q : Went own w own5 w5) (hn : s < w.heap.size ∧ ¬ own s ∧ m < w.heap.size ∧ ¬ own m) (h : w.cell? ⟨s, 0, none⟩ = x ∧ w.cell? ⟨s, 1, none⟩ = y ∧ w.cell? ⟨s, 2, none⟩ = z ∧ w.cell? ⟨m, 1, none⟩ = u) :
    w5.cell? ⟨s, 0, none⟩ = x ∧ w5.cell? ⟨s, 1, none⟩ = y ∧ w5.cell? ⟨s, 2, none⟩ = z ∧ w5.cell? ⟨m, 1, none⟩ = u :=
  ⟨(q.cell hn.1 hn.2.1).trans h.1, (q.cell hn.1 hn.2.1).trans h.2.1, (q.cell hn.1 hn.2.1).trans h.2.2.1, (q.cell hn.2.2.1 hn.2.2.2).trans h.2.2.2⟩
/-- Both halves, and what Mk made of them. -/
theorem grew_all {L2 L3 L4 : List Nd} {v : Nat} {lo hi : Int} (hn : ∃ (k : Nat) (y : Nd), L[k]? = some y ∧ y.1 = (v : Int)) (g2 : Grew (v + 1) L L2) (g3 : Grew (v + 1) L2 L3) (h : L4 = L3 ∨ L4 = L3 ++ [((v : Int), lo, hi)]) : Grew v L L4 := by
  rcases h with rfl | rfl
  · exact grew_two g2 g3
  · exact grew_node g2 g3 rfl hn
theorem key_told {L4 : List Nd} {k : Mem.Ky} {r4 : Int} {v : Nat} {G : Bool → Nat → Bool} (hR : RightL L) (hm : ∃ M, L4 = L ++ M) (hk : keyIn L.length k) (h7 : k.1 ≠ -7) (hG : ∀ b, keyF L k b = G (b.testBit v) b) (t4 : Tells L4 (fun b => if b.testBit v = true then G true b else G false b) r4) : keyOk L4 k r4 ∧ Tells L4 (keyF L k) r4 := by
  obtain ⟨M, rfl⟩ := hm
  have e : ∀ b, (if b.testBit v = true then G true b else G false b) = keyF L k b := fun b => by
    rw [hG b]
    cases b.testBit v <;> rfl
  have t : Tells (L ++ M) (keyF L k) r4 := ⟨t4.1, fun b => (t4.2 b).trans (e b)⟩
  exact ⟨⟨keyIn_mono hk (by simp), fun h => absurd h h7, fun _ => ⟨t.1, fun b => (t.2 b).trans (keyF_more hR M hk h7 b).symm⟩⟩, t⟩
set_option maxRecDepth 100000 in
set_option maxHeartbeats 3200000 in
theorem grow_new (h : Mg W own m lim L) (hl : lim ≤ 65536) {k1 k2 k3 val : Int} {v kf : Nat} {caps : Array Value} {G : Bool → Nat → Bool} (h7 : k1 ≠ -7) (hk : keyIn L.length (k1, k2, k3)) (hv : v < 12) (hn : ∃ (k : Nat) (y : Nd), L[k]? = some y ∧ y.1 = (v : Int))
    (hG : ∀ b, keyF L (k1, k2, k3) b = G (b.testBit v) b) (hI : ∀ on (b c : Nat), (∀ i, v + 1 ≤ i → b.testBit i = c.testBit i) → G on b = G on c)
    (ekf : ∀ args w, (callFunc kf args).run Try.prog w = .ok (.enter kf args) w)
    (hf : ∀ (on : Bool) W1 own1 L1, Mg W1 own1 m lim L1 → Went own W own1 W1 → (∃ M, L1 = L ++ M) → Calls Try.prog kf (#[.bool on] ++ caps) W1 (RetOp (G on) (v + 1) own1 m lim L1 W1))
    (hg : ∀ q, W.cell? ⟨m, 1, none⟩ = some (.pointer (some ⟨q, 0, none⟩)) → ∀ w1, Below W.heap.size W w1 → Calls Try.prog 57 #[.pointer (some ⟨q, 0, none⟩), .agg #[.int .i64 k1, .int .i64 k2, .int .i64 k3]] w1 fun e w' => e = .returned (.tuple #[.int .i64 val, .bool false]) ∧ Below w1.heap.size w1 w') :
    Calls Try.prog 62 #[.pointer (some ⟨m, 0, none⟩), .agg #[.int .i64 k1, .int .i64 k2, .int .i64 k3], .int .i64 v, .func (.func kf) #[] caps] W (RetOp (keyF L (k1, k2, k3)) v own m lim L W) := by
  have HM := Lib.hid h
  obtain ⟨p, q, -, -, c1, hm, hno⟩ := mg_at h
  have HG := Lib.hid (hg q c1)
  have HF := Lib.hid hf
  have HP := Lib.hid (show lim ≤ 65536 ∧ k1 ≠ -7 ∧ keyIn L.length (k1, k2, k3) ∧ v < 12 ∧ (∃ (k : Nat) (y : Nd), L[k]? = some y ∧ y.1 = (v : Int)) ∧ (∀ b, keyF L (k1, k2, k3) b = G (b.testBit v) b) ∧ (∀ on (b c : Nat), (∀ i, v + 1 ≤ i → b.testBit i = c.testBit i) → G on b = G on c) from ⟨hl, h7, hk, hv, hn, hG, hI⟩)
  have hb0 : Below W.heap.size W (W.alloc (.cells #[.int .i64 k1, .int .i64 k2, .int .i64 k3] 90)) := (Below.refl _ _).alloc (Nat.le_refl _) _
  have hB := Blk.new W 90 #[.int .i64 k1, .int .i64 k2, .int .i64 k3]
  have HX := Lib.hid (hB.below ((Below.refl _ _).drew) hB.lt)
  have K0 : Hid (Below W.heap.size W (W.alloc (.cells #[.int .i64 k1, .int .i64 k2, .int .i64 k3] 90)).drew ∧ W.heap.size < (W.alloc (.cells #[.int .i64 k1, .int .i64 k2, .int .i64 k3] 90)).drew.heap.size ∧ m < (W.alloc (.cells #[.int .i64 k1, .int .i64 k2, .int .i64 k3] 90)).drew.heap.size ∧ (W.alloc (.cells #[.int .i64 k1, .int .i64 k2, .int .i64 k3] 90)).drew.cell? ⟨W.heap.size, 0, none⟩ = some (.int .i64 k1) ∧ (W.alloc (.cells #[.int .i64 k1, .int .i64 k2, .int .i64 k3] 90)).drew.cell? ⟨W.heap.size, 1, none⟩ = some (.int .i64 k2) ∧ (W.alloc (.cells #[.int .i64 k1, .int .i64 k2, .int .i64 k3] 90)).drew.cell? ⟨W.heap.size, 2, none⟩ = some (.int .i64 k3) ∧ (W.alloc (.cells #[.int .i64 k1, .int .i64 k2, .int .i64 k3] 90)).drew.cell? ⟨m, 1, none⟩ = some (.pointer (some ⟨q, 0, none⟩))) :=
    Lib.hid ⟨hb0.drew, hB.lt, Nat.lt_of_lt_of_le hm hb0.size, hB.cell 0, hB.cell 1, hB.cell 2, (hb0.cell (p := ⟨m, 1, none⟩) hm).trans c1⟩
  have HN := Lib.hid hno
  clear h hg hb0 hB c1 hf hl h7 hk hv hn hG hI hno
  go_enter Try.func62, Try.ntmps62
  go_wp2_with fail
  go_region_held3 (fun w' => (Below W.heap.size W w' ∧ W.heap.size < w'.heap.size ∧ m < w'.heap.size ∧ w'.cell? ⟨W.heap.size, 0, none⟩ = some (.int .i64 k1) ∧ w'.cell? ⟨W.heap.size, 1, none⟩ = some (.int .i64 k2) ∧ w'.cell? ⟨W.heap.size, 2, none⟩ = some (.int .i64 k3) ∧ w'.cell? ⟨m, 1, none⟩ = some (.pointer (some ⟨q, 0, none⟩))))
    (first | (with_reducible exact K0.out) | (with_reducible exact keep_key hb1 K0.out))
    (first | (go_at_call 57; ((with_reducible refine (HG.out _ K0.out.1).mono ?_); rintro e w1 ⟨rfl, hb1⟩)))
  have HB := Lib.hid (K0.out.1.trans (hb1.mono K0.out.1.size))
  have HKB := Lib.hid ((HX.out.below hb1 HX.out.lt))
  clear hb1 K0 HX
  go_wp2_with (first
    | (go_at_fn kf; ((with_reducible refine (HF.out true _ _ _ H2.out.1 H2.out.2.1 H2.out.2.2.2.1).mono ?_); rintro e w3 ⟨own3, L3, h3, q3, g3, r3, ev3, rfl, (⟨rfl, t3⟩ | ⟨rfl, b3, a3, rfl, f3, l3⟩)⟩) <;> (obtain ⟨p3, qq3, G3, c3, -⟩ := mg_at h3; have G3 := Lib.hid G3; have H3 := Lib.hid (show Mg w3 own3 m lim L3 ∧ Went own2 w2 own3 w3 ∧ Grew (v + 1) L2 L3 from ⟨h3, q3, g3⟩); clear h3 q3 g3))
    | (go_at_fn kf; ((with_reducible refine (HF.out false _ _ _ (HM.out.below HB.out) (Went.of_below HB.out own) ⟨[], by simp⟩).mono ?_); rintro e w2 ⟨own2, L2, h2, q2, g2, r2, ev2, rfl, (⟨rfl, t2⟩ | ⟨rfl, b2, a2, rfl, f2, l2⟩)⟩) <;> (have H2 := Lib.hid (show Mg w2 own2 m lim L2 ∧ Went own W own2 w2 ∧ Grew (v + 1) L L2 ∧ (∃ M, L2 = L ++ M) ∧ Went own w1 own2 w2 from ⟨h2, (Went.of_below HB.out own).trans q2, g2, g2.more, q2⟩); clear h2 q2 g2))
    | (go_at_call 49; ((with_reducible refine (mg_mk G3.out HP.out.1 HP.out.2.2.2.1 (halves H3.out.1 H2.out.1.right H3.out.2.2 HP.out.2.2.2.1 t2 t3 HP.out.2.2.2.2.2.2).1 t3 (halves H3.out.1 H2.out.1.right H3.out.2.2 HP.out.2.2.2.1 t2 t3 HP.out.2.2.2.2.2.2).2.1 (halves H3.out.1 H2.out.1.right H3.out.2.2 HP.out.2.2.2.1 t2 t3 HP.out.2.2.2.2.2.2).2.2).mono ?_); rintro e w4 ⟨own4, L4, h4, q4, hL4, r4, ev4, rfl, (⟨rfl, t4⟩ | ⟨rfl, b4, a4, rfl, f4, l4⟩)⟩) <;> (have H4 := Lib.hid (show Mg w4 own4 m lim L4 ∧ Went own3 w3 own4 w4 ∧ (L4 = L3 ∨ L4 = L3 ++ [((v : Int), r2, r3)]) from ⟨h4, q4, hL4⟩); clear h4 q4 hL4)))
  · have HGr := Lib.hid (grew_all HP.out.2.2.2.2.1 H2.out.2.2.1 H3.out.2.2 H4.out.2.2)
    have HQ := Lib.hid (show Went own w1 own4 w4 ∧ Went own W own4 w4 from ⟨H2.out.2.2.2.2.trans (H3.out.2.1.trans H4.out.2.1), H2.out.2.1.trans (H3.out.2.1.trans H4.out.2.1)⟩)
    have HT := Lib.hid (key_told HM.out.right HGr.out.more HP.out.2.2.1 HP.out.2.1 HP.out.2.2.2.2.2.1 t4)
    have hB4 := HQ.out.1.blk HKB.out (new_not HM.out (Nat.le_refl _))
    obtain ⟨p4, q4, G4, -, c4, hm4, -⟩ := mg_at H4.out.1
    have G4 := Lib.hid G4
    have K4 : Hid (w4.drew.cell? ⟨W.heap.size, 0, none⟩ = some (.int .i64 k1) ∧ w4.drew.cell? ⟨W.heap.size, 1, none⟩ = some (.int .i64 k2) ∧ w4.drew.cell? ⟨W.heap.size, 2, none⟩ = some (.int .i64 k3) ∧ w4.drew.cell? ⟨m, 1, none⟩ = some (.pointer (some ⟨q4, 0, none⟩))) := Lib.hid ⟨hB4.cell 0, hB4.cell 1, hB4.cell 2, c4⟩
    have hb4 : Below w4.heap.size w4 w4.drew := (Below.refl _ _).drew
    have HP4 := Lib.hid (mg_put (G4.out.below hb4) HT.out.1)
    have HW4 := Lib.hid (Went.of_below hb4 own4)
    have HN4 := Lib.hid (show W.heap.size < w4.drew.heap.size ∧ ¬ own4 W.heap.size ∧ m < w4.drew.heap.size ∧ ¬ own4 m from ⟨hB4.lt, HQ.out.1.not (new_not HM.out (Nat.le_refl _)) HKB.out.lt, hm4, HQ.out.2.not HN.out hm⟩)
    clear hB4 c4 hb4
    go_region_held3 (fun w' => (w'.cell? ⟨W.heap.size, 0, none⟩ = some (.int .i64 k1) ∧ w'.cell? ⟨W.heap.size, 1, none⟩ = some (.int .i64 k2) ∧ w'.cell? ⟨W.heap.size, 2, none⟩ = some (.int .i64 k3) ∧ w'.cell? ⟨m, 1, none⟩ = some (.pointer (some ⟨q4, 0, none⟩))))
      (first | (with_reducible exact K4.out) | (with_reducible exact put_keep q5 HN4.out K4.out))
      (first | (go_at_call 58; ((with_reducible refine HP4.out.mono ?_); rintro e w5 ⟨⟨u, rfl⟩, h5, q5⟩)))
    go_wp2_with fail
    go_ret2
    exact ⟨own4, L4, h5, HQ.out.2.trans (HW4.out.trans q5), HGr.out, told_ref HT.out.2⟩
  · go_ret2
    exact ⟨own4, L4, H4.out.1, H2.out.2.1.trans (H3.out.2.1.trans H4.out.2.1), grew_all HP.out.2.2.2.2.1 H2.out.2.2.1 H3.out.2.2 H4.out.2.2, told_full f4 l4⟩
  · go_ret2
    exact ⟨own3, L3, H3.out.1, H2.out.2.1.trans H3.out.2.1, grew_two H2.out.2.2.1 H3.out.2.2, told_full f3 l3⟩
  · go_ret2
    exact ⟨own2, L2, H2.out.1, H2.out.2.1, H2.out.2.2.1.mono (Nat.le_succ v), told_full f2 l2⟩
theorem grow_any (h : Mg W own m lim L) (hl : lim ≤ 65536) {k1 k2 k3 : Int} {v kf : Nat} {caps : Array Value} {G : Bool → Nat → Bool} (h7 : k1 ≠ -7) (hk : keyIn L.length (k1, k2, k3)) (hv : v < 12) (hn : ∃ (k : Nat) (y : Nd), L[k]? = some y ∧ y.1 = (v : Int))
    (hG : ∀ b, keyF L (k1, k2, k3) b = G (b.testBit v) b) (hI : ∀ on (b c : Nat), (∀ i, v + 1 ≤ i → b.testBit i = c.testBit i) → G on b = G on c)
    (ekf : ∀ args w, (callFunc kf args).run Try.prog w = .ok (.enter kf args) w)
    (hf : ∀ (on : Bool) W1 own1 L1, Mg W1 own1 m lim L1 → Went own W own1 W1 → (∃ M, L1 = L ++ M) → Calls Try.prog kf (#[.bool on] ++ caps) W1 (RetOp (G on) (v + 1) own1 m lim L1 W1)) :
    Calls Try.prog 62 #[.pointer (some ⟨m, 0, none⟩), .agg #[.int .i64 k1, .int .i64 k2, .int .i64 k3], .int .i64 v, .func (.func kf) #[] caps] W (RetOp (keyF L (k1, k2, k3)) v own m lim L W) := by
  obtain ⟨p, q, g, -, c1, -⟩ := mg_at h
  have hq : ∀ q', W.cell? ⟨m, 1, none⟩ = some (.pointer (some ⟨q', 0, none⟩)) → q' = q := fun q' hq => by
    rw [c1] at hq
    injection hq with hq
    injection hq with hq
    injection hq with hq
    injection hq with hq
    exact hq.symm
  rcases mg_get g k1 k2 k3 with ⟨val, hko, hc⟩ | ⟨val, hc⟩
  · exact grow_known h h7 hko fun q' e => by rw [hq q' e]; exact hc
  · exact grow_new h hl h7 hk hv hn hG hI ekf hf fun q' e => by rw [hq q' e]; exact hc
end
end Go.Proofs.Ytdgjbbcalffbcaa
