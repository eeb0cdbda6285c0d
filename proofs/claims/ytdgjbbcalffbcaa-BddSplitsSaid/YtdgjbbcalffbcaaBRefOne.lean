/- The document's with, at and one. -/
import Derived.Test.YtdgjbbcalffbcaaBRefBit
import Derived.Test.YtdgjbbcalffbcaaBTop
namespace Go.Proofs.Ytdgjbbcalffbcaa
open Go.RowKit
attribute [local go_sem ↓] Go.wp_at_zero Go.wp_at_succ

theorem ret_int0 {k : IntKind} {a b : Int} (h : a = b) : Ending.returned (.int k a) = .returned (.int k b) := by rw [h]
theorem pow_nat (i : Nat) : ((2 ^ i : Nat) : Int) * 2 = ((2 ^ (i + 1) : Nat) : Int) := by
  rw [Nat.pow_succ]
  generalize 2 ^ i = m
  omega
theorem pow_le12 {i : Nat} (h : i ≤ 12) : 2 ^ i ≤ 4096 := Nat.pow_le_pow_right (n := 2) (by omega) h
set_option maxRecDepth 100000 in
set_option maxHeartbeats 800000 in
theorem with_any (n v : Nat) (on : Bool) (hn : n < 4096) (hv : v < 12) (W : World) : Calls Try.prog 37 #[.int .i64 n, .int .i64 v, .bool on] W (RetW (.int .i64 (setBit n v on : Nat)) W) := by
  have HP := Lib.hid (fun i (h : i ≤ 12) => pow_le12 h)
  have HT := Lib.hid (bit_any n v hn hv)
  have HH := Lib.hid pow_nat
  have HS : Hid (n.testBit v = false → setBit n v true = n + 2 ^ v) := Lib.hid set_add
  have HD : Hid (n.testBit v = true → setBit n v false + 2 ^ v = n) := Lib.hid set_sub
  have HE : Hid (∀ on, n.testBit v = on → setBit n v on = n) := Lib.hid fun on => set_self
  cases hb : n.testBit v <;> cases on <;> rw [hb] at HT HS HD HE
  all_goals have HB := Lib.hid hb
  all_goals clear hb
  all_goals
    go_enter Try.func37, Try.ntmps37
    go_wp2_with fail
    go_loopg [7, 8] v (fun gk t7 t8 wr => ∃ i : Nat, i + gk = v ∧ t7 = .int .i64 ((2 ^ i : Nat) : Int) ∧ t8 = .int .i64 (i : Int) ∧ wr = W)
    case atStart => exact ⟨0, by omega, rfl, rfl, rfl⟩
    case round =>
      obtain ⟨i, hi, rfl, rfl, rfl⟩ := hrel
      obtain ⟨x, hx⟩ : ∃ x, x = 2 ^ i := ⟨_, rfl⟩
      have hx1 : x ≤ 4096 := by rw [hx]; exact HP.out i (by omega)
      have e1 := HH.out i
      rw [← hx] at e1 ⊢
      have HX := Lib.hid hx
      have HQ := Lib.hid e1
      clear hx e1
      by_cases h : i < v
      · go_wp2_with fail
        go_roundg (gk - 1)
        case measure => omega
        case rel => exact ⟨i + 1, by omega, by rw [← HQ.out], by go_num, rfl⟩
      · obtain rfl : i = v := by omega
        go_wp2_with (go_at_call 59; ((with_reducible refine (HT.out _).mono ?_); rintro e w1 ⟨rfl, rfl⟩))
        go_ret
        refine ⟨?_, rfl⟩
        first
          | (have hd := HE.out _ rfl; refine ret_int0 ?_; omega)
          | (have hd := HS.out trivial; rw [← HX.out] at hd; refine ret_int0 ?_; omega)
          | (have hd := HD.out trivial; rw [← HX.out] at hd; refine ret_int0 ?_; omega)
/-- A function's row: 4096 booleans. -/
def Tab (W : World) (v : Value) (F : Nat → Bool) : Prop := ∃ g c, v = .slice (some ⟨g, 0, none⟩) 4096 c ∧ g < W.heap.size ∧ ∀ n, n < 4096 → W.cell? ⟨g, n, none⟩ = some (.bool (F n))
theorem Tab.below {W W1 : World} {v : Value} {F : Nat → Bool} (h : Tab W v F) (hb : Below W.heap.size W W1) : Tab W1 v F := by
  obtain ⟨g, c, rfl, hg, hc⟩ := h
  exact ⟨g, c, rfl, Nat.lt_of_lt_of_le hg hb.size, fun n hn => (hb.cell (p := ⟨g, n, none⟩) hg).trans (hc n hn)⟩
theorem Tab.went {W W1 : World} {own own1 : Nat → Prop} {v : Value} {F : Nat → Bool} (h : Tab W v F) (q : Went own W own1 W1) (hn : ∀ g, v.ownBlock = some g → ¬ own g) : Tab W1 v F := by
  obtain ⟨g, c, rfl, hg, hc⟩ := h
  exact ⟨g, c, rfl, Nat.lt_of_lt_of_le hg q.size, fun n hn' => (q.cell hg (hn g rfl)).trans (hc n hn')⟩
theorem at_any {W : World} {v : Value} {F : Nat → Bool} (h : Tab W v F) {n : Nat} (hn : n < 4096) : Calls Try.prog 71 #[v, .int .i64 n] W (RetW (.bool (F n)) W) := by
  obtain ⟨g, c, rfl, hg, hc⟩ := h
  have c0 := hc n hn
  clear hc
  go_enter Try.func71, Try.ntmps71
  go_wp2_with fail
  go_ret
  exact ⟨rfl, rfl⟩
/-- The function of an op. -/
def opF (o : Opn) (Fa Fb Fc : Nat → Bool) (b : Nat) : Bool :=
  if o.kind = 0 then b.testBit o.v.toNat
  else if o.kind = 1 then !Fa b
  else if o.kind = 2 then Fa b && Fb b
  else if o.kind = 3 then Fa b || Fb b
  else if o.kind = 4 then Fa b != Fb b
  else if o.kind = 5 then (if Fa b = true then Fb b else Fc b)
  else if o.kind = 6 then Fa (setBit b o.v.toNat o.yes)
  else if o.kind = 7 then Fa (setBit b o.v.toNat false) || Fa (setBit b o.v.toNat true)
  else Fa (setBit b o.v.toNat (Fb b))
section
variable {W : World} {v a b c : Int} {yes : Bool} {va vb vc : Value} {Fa Fb Fc : Nat → Bool} {n : Nat}
/-- The world of 'one': with its op's box. -/
def oneW (W : World) (k v a b c : Int) (yes : Bool) : World := W.alloc (.cells #[.int .i64 k, .int .i64 v, .int .i64 a, .int .i64 b, .int .i64 c, .bool yes] 31)
theorem oneW_below (W : World) (k v a b c : Int) (yes : Bool) : Below W.heap.size W (oneW W k v a b c yes) := (Below.refl _ _).alloc (Nat.le_refl _) _
def RetO (x : Bool) (W : World) (e : Ending) (w' : World) : Prop := e = .returned (.bool x) ∧ Below W.heap.size W w'
set_option maxRecDepth 100000 in
set_option maxHeartbeats 800000 in
theorem one_0 {v : Nat} (hv : v < 12) (hn : n < 4096) : Calls Try.prog 54 #[.agg #[.int .i64 0, .int .i64 (v : Int), .int .i64 a, .int .i64 b, .int .i64 c, .bool yes], va, vb, vc, .int .i64 n] W (RetO (n.testBit v) W) := by
  have HN := Lib.hid hn
  have HB := Lib.hid (oneW_below W 0 v a b c yes)
  have HV := Lib.hid hv
  unfold oneW at *
  clear hn hv
  go_enter Try.func54, Try.ntmps54
  go_wp2_with (first
    | (go_at_call 59; ((with_reducible refine (bit_any n v HN.out HV.out _).mono ?_); rintro e w9 ⟨rfl, rfl⟩)))
  go_ret
  exact ⟨rfl, HB.out⟩
set_option maxRecDepth 100000 in
set_option maxHeartbeats 800000 in
theorem one_1 (hn : n < 4096) (ha : Tab W va Fa) : Calls Try.prog 54 #[.agg #[.int .i64 1, .int .i64 v, .int .i64 a, .int .i64 b, .int .i64 c, .bool yes], va, vb, vc, .int .i64 n] W (RetO (!Fa n) W) := by
  have HN := Lib.hid hn
  have HB := Lib.hid (oneW_below W 1 v a b c yes)
  have HA := Lib.hid (ha.below HB.out)
  unfold oneW at *
  clear hn ha
  go_enter Try.func54, Try.ntmps54
  go_wp2_with (first
    | (go_at_call 71; ((with_reducible refine (at_any (HA.out) HN.out).mono ?_); rintro e w9 ⟨rfl, rfl⟩)))
  go_ret
  exact ⟨rfl, HB.out⟩
set_option maxRecDepth 100000 in
set_option maxHeartbeats 800000 in
theorem one_2 (hn : n < 4096) (ha : Tab W va Fa) (hb : Tab W vb Fb) : Calls Try.prog 54 #[.agg #[.int .i64 2, .int .i64 v, .int .i64 a, .int .i64 b, .int .i64 c, .bool yes], va, vb, vc, .int .i64 n] W (RetO (Fa n && Fb n) W) := by
  have HN := Lib.hid hn
  have HB := Lib.hid (oneW_below W 2 v a b c yes)
  have HA := Lib.hid (ha.below HB.out)
  have HB2 := Lib.hid (hb.below HB.out)
  unfold oneW at *
  clear hn ha hb
  obtain ⟨x, hx⟩ : ∃ x, Fa n = x := ⟨_, rfl⟩
  obtain ⟨y, hy⟩ : ∃ y, Fb n = y := ⟨_, rfl⟩
  have H1 := Lib.hid (at_any HA.out HN.out)
  have H2 := Lib.hid (at_any HB2.out HN.out)
  rw [hx] at H1
  rw [hy] at H2
  rw [hx, hy]
  clear hx hy HA HB2
  cases x <;> cases y
  all_goals
    go_enter Try.func54, Try.ntmps54
    go_wp2_with (first
      | (go_at_call 71; ((with_reducible refine H1.out.mono ?_); rintro e w9 ⟨rfl, rfl⟩))
      | (go_at_call 71; ((with_reducible refine H2.out.mono ?_); rintro e w9 ⟨rfl, rfl⟩)))
    go_ret
    exact ⟨rfl, HB.out⟩
set_option maxRecDepth 100000 in
set_option maxHeartbeats 800000 in
theorem one_3 (hn : n < 4096) (ha : Tab W va Fa) (hb : Tab W vb Fb) : Calls Try.prog 54 #[.agg #[.int .i64 3, .int .i64 v, .int .i64 a, .int .i64 b, .int .i64 c, .bool yes], va, vb, vc, .int .i64 n] W (RetO (Fa n || Fb n) W) := by
  have HN := Lib.hid hn
  have HB := Lib.hid (oneW_below W 3 v a b c yes)
  have HA := Lib.hid (ha.below HB.out)
  have HB2 := Lib.hid (hb.below HB.out)
  unfold oneW at *
  clear hn ha hb
  obtain ⟨x, hx⟩ : ∃ x, Fa n = x := ⟨_, rfl⟩
  obtain ⟨y, hy⟩ : ∃ y, Fb n = y := ⟨_, rfl⟩
  have H1 := Lib.hid (at_any HA.out HN.out)
  have H2 := Lib.hid (at_any HB2.out HN.out)
  rw [hx] at H1
  rw [hy] at H2
  rw [hx, hy]
  clear hx hy HA HB2
  cases x <;> cases y
  all_goals
    go_enter Try.func54, Try.ntmps54
    go_wp2_with (first
      | (go_at_call 71; ((with_reducible refine H1.out.mono ?_); rintro e w9 ⟨rfl, rfl⟩))
      | (go_at_call 71; ((with_reducible refine H2.out.mono ?_); rintro e w9 ⟨rfl, rfl⟩)))
    go_ret
    exact ⟨rfl, HB.out⟩
set_option maxRecDepth 100000 in
set_option maxHeartbeats 800000 in
theorem one_4 (hn : n < 4096) (ha : Tab W va Fa) (hb : Tab W vb Fb) : Calls Try.prog 54 #[.agg #[.int .i64 4, .int .i64 v, .int .i64 a, .int .i64 b, .int .i64 c, .bool yes], va, vb, vc, .int .i64 n] W (RetO (Fa n != Fb n) W) := by
  have HN := Lib.hid hn
  have HB := Lib.hid (oneW_below W 4 v a b c yes)
  have HA := Lib.hid (ha.below HB.out)
  have HB2 := Lib.hid (hb.below HB.out)
  unfold oneW at *
  clear hn ha hb
  obtain ⟨x, hx⟩ : ∃ x, Fa n = x := ⟨_, rfl⟩
  obtain ⟨y, hy⟩ : ∃ y, Fb n = y := ⟨_, rfl⟩
  have H1 := Lib.hid (at_any HA.out HN.out)
  have H2 := Lib.hid (at_any HB2.out HN.out)
  rw [hx] at H1
  rw [hy] at H2
  rw [hx, hy]
  clear hx hy HA HB2
  cases x <;> cases y
  all_goals
    go_enter Try.func54, Try.ntmps54
    go_wp2_with (first
      | (go_at_call 71; ((with_reducible refine H1.out.mono ?_); rintro e w9 ⟨rfl, rfl⟩))
      | (go_at_call 71; ((with_reducible refine H2.out.mono ?_); rintro e w9 ⟨rfl, rfl⟩)))
    go_ret
    exact ⟨rfl, HB.out⟩
set_option maxRecDepth 100000 in
set_option maxHeartbeats 800000 in
theorem one_5 (hn : n < 4096) (ha : Tab W va Fa) (hb : Tab W vb Fb) (hc : Tab W vc Fc) : Calls Try.prog 54 #[.agg #[.int .i64 5, .int .i64 v, .int .i64 a, .int .i64 b, .int .i64 c, .bool yes], va, vb, vc, .int .i64 n] W (RetO (if Fa n = true then Fb n else Fc n) W) := by
  have HN := Lib.hid hn
  have HB := Lib.hid (oneW_below W 5 v a b c yes)
  have HA := Lib.hid (ha.below HB.out)
  have HB2 := Lib.hid (hb.below HB.out)
  have HC := Lib.hid (hc.below HB.out)
  unfold oneW at *
  clear hn ha hb hc
  obtain ⟨x, hx⟩ : ∃ x, Fa n = x := ⟨_, rfl⟩
  have H1 := Lib.hid (at_any HA.out HN.out)
  rw [hx] at H1
  rw [hx]
  clear hx HA
  cases x
  all_goals
    go_enter Try.func54, Try.ntmps54
    go_wp2_with (first
      | (go_at_call 71; ((with_reducible refine H1.out.mono ?_); rintro e w9 ⟨rfl, rfl⟩))
      | (go_at_call 71; ((with_reducible refine (at_any (HB2.out) HN.out).mono ?_); rintro e w9 ⟨rfl, rfl⟩))
      | (go_at_call 71; ((with_reducible refine (at_any (HC.out) HN.out).mono ?_); rintro e w9 ⟨rfl, rfl⟩)))
    go_ret
    exact ⟨rfl, HB.out⟩
set_option maxRecDepth 100000 in
set_option maxHeartbeats 800000 in
theorem one_6 {v : Nat} (hv : v < 12) (hn : n < 4096) (ha : Tab W va Fa) : Calls Try.prog 54 #[.agg #[.int .i64 6, .int .i64 (v : Int), .int .i64 a, .int .i64 b, .int .i64 c, .bool yes], va, vb, vc, .int .i64 n] W (RetO (Fa (setBit n v yes)) W) := by
  have HN := Lib.hid hn
  have HB := Lib.hid (oneW_below W 6 v a b c yes)
  have HA := Lib.hid (ha.below HB.out)
  have HV := Lib.hid hv
  have HS : Hid (∀ on, setBit n v on < 4096) := Lib.hid fun on => setBit_lt on hn hv
  unfold oneW at *
  clear hn ha hv
  go_enter Try.func54, Try.ntmps54
  go_wp2_with (first
    | (go_at_call 37; ((with_reducible refine (with_any n v yes HN.out HV.out _).mono ?_); rintro e w8 ⟨rfl, rfl⟩))
    | (go_at_call 71; ((with_reducible refine (at_any (HA.out) (HS.out yes)).mono ?_); rintro e w9 ⟨rfl, rfl⟩)))
  go_ret
  exact ⟨rfl, HB.out⟩
set_option maxRecDepth 100000 in
set_option maxHeartbeats 800000 in
theorem one_7 {v : Nat} (hv : v < 12) (hn : n < 4096) (ha : Tab W va Fa) : Calls Try.prog 54 #[.agg #[.int .i64 7, .int .i64 (v : Int), .int .i64 a, .int .i64 b, .int .i64 c, .bool yes], va, vb, vc, .int .i64 n] W (RetO (Fa (setBit n v false) || Fa (setBit n v true)) W) := by
  have HN := Lib.hid hn
  have HB := Lib.hid (oneW_below W 7 v a b c yes)
  have HA := Lib.hid (ha.below HB.out)
  have HV := Lib.hid hv
  have HS : Hid (∀ on, setBit n v on < 4096) := Lib.hid fun on => setBit_lt on hn hv
  unfold oneW at *
  clear hn ha hv
  obtain ⟨x, hx⟩ : ∃ x, Fa (setBit n v false) = x := ⟨_, rfl⟩
  obtain ⟨y, hy⟩ : ∃ y, Fa (setBit n v true) = y := ⟨_, rfl⟩
  have H1 := Lib.hid (at_any HA.out (HS.out false))
  have H2 := Lib.hid (at_any HA.out (HS.out true))
  rw [hx] at H1
  rw [hy] at H2
  rw [hx, hy]
  clear hx hy HA
  cases x <;> cases y
  all_goals
    go_enter Try.func54, Try.ntmps54
    go_wp2_with (first
      | (go_at_call 37; ((with_reducible refine (with_any n v false HN.out HV.out _).mono ?_); rintro e w8 ⟨rfl, rfl⟩))
      | (go_at_call 37; ((with_reducible refine (with_any n v true HN.out HV.out _).mono ?_); rintro e w8 ⟨rfl, rfl⟩))
      | (go_at_call 71; ((with_reducible refine H1.out.mono ?_); rintro e w9 ⟨rfl, rfl⟩))
      | (go_at_call 71; ((with_reducible refine H2.out.mono ?_); rintro e w9 ⟨rfl, rfl⟩)))
    go_ret
    exact ⟨rfl, HB.out⟩
set_option maxRecDepth 100000 in
set_option maxHeartbeats 800000 in
theorem one_8 {v : Nat} (hv : v < 12) (hn : n < 4096) (ha : Tab W va Fa) (hb : Tab W vb Fb) : Calls Try.prog 54 #[.agg #[.int .i64 8, .int .i64 (v : Int), .int .i64 a, .int .i64 b, .int .i64 c, .bool yes], va, vb, vc, .int .i64 n] W (RetO (Fa (setBit n v (Fb n))) W) := by
  have HN := Lib.hid hn
  have HB := Lib.hid (oneW_below W 8 v a b c yes)
  have HA := Lib.hid (ha.below HB.out)
  have HB2 := Lib.hid (hb.below HB.out)
  have HV := Lib.hid hv
  have HS : Hid (∀ on, setBit n v on < 4096) := Lib.hid fun on => setBit_lt on hn hv
  unfold oneW at *
  clear hn ha hb hv
  have HW := Lib.hid (with_any n v (Fb n) HN.out HV.out)
  have H2 := Lib.hid (HS.out (Fb n))
  have hc : (W.alloc (.cells #[.int .i64 8, .int .i64 (v : Int), .int .i64 a, .int .i64 b, .int .i64 c, .bool yes] 31)).drew.cell? ⟨W.heap.size, 1, none⟩ = some (.int .i64 (v : Int)) := (Blk.new W 31 #[.int .i64 8, .int .i64 (v : Int), .int .i64 a, .int .i64 b, .int .i64 c, .bool yes]).cell 1
  have K0 := Lib.hid hc
  have hbd : Below (W.alloc (.cells #[.int .i64 8, .int .i64 (v : Int), .int .i64 a, .int .i64 b, .int .i64 c, .bool yes] 31)).heap.size (W.alloc (.cells #[.int .i64 8, .int .i64 (v : Int), .int .i64 a, .int .i64 b, .int .i64 c, .bool yes] 31)) (W.alloc (.cells #[.int .i64 8, .int .i64 (v : Int), .int .i64 a, .int .i64 b, .int .i64 c, .bool yes] 31)).drew := (Below.refl _ _).drew
  have HA2 := Lib.hid (HA.out.below hbd)
  have HB3 := Lib.hid (HB2.out.below hbd)
  have HBd := Lib.hid (HB.out.trans (hbd.mono HB.out.size))
  clear hc hbd HA HB2
  go_enter Try.func54, Try.ntmps54
  go_wp2_with fail
  go_region_held3 (fun w => w.cell? ⟨W.heap.size, 1, none⟩ = some (.int .i64 (v : Int)))
    (first | (with_reducible exact K0.out))
    (first
      | (go_at_call 71; ((with_reducible refine (at_any HB3.out HN.out).mono ?_); rintro e w9 ⟨rfl, rfl⟩))
      | (go_at_call 37; ((with_reducible refine (HW.out _).mono ?_); rintro e w8 ⟨rfl, rfl⟩))
      | (go_at_call 71; ((with_reducible refine (at_any HA2.out H2.out).mono ?_); rintro e w9 ⟨rfl, rfl⟩)))
  go_wp2_with fail
  go_ret
  exact ⟨rfl, HBd.out⟩
end
end Go.Proofs.Ytdgjbbcalffbcaa
