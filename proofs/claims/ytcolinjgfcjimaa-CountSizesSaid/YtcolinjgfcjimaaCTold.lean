/- The contracts of Depth, One, and what is reckoned for Sat: folds over naturals. -/
import Derived.Test.YtcolinjgfcjimaaCReckonAll
import Derived.Laws.Bits64b
namespace Go.Proofs.Ytcolinjgfcjimaa
open Go.RowKit
attribute [local go_sem ↓] Go.wp_at_zero Go.wp_at_succ

theorem wrap64_at {n : Int} (h0 : 0 ≤ n) (h1 : n < 9223372036854775808) : wrap64 n = n := by unfold wrap64; omega
theorem bits_or_i64_nat (a b : Nat) (ha : a < 4611686018427387904) (hb : b < 4611686018427387904) : bits .or .i64 (a : Int) (b : Int) = ((a ||| b : Nat) : Int) := by
  have hx : a ||| b < 2 ^ 62 := Nat.or_lt_two_pow (by omega) (by omega)
  have h1 : (BitVec.ofInt 64 (a : Int)).toNat = a := by
    rw [BitVec.ofInt_natCast, BitVec.toNat_ofNat]; exact Nat.mod_eq_of_lt (by omega)
  have h2 : (BitVec.ofInt 64 (b : Int)).toNat = b := by
    rw [BitVec.ofInt_natCast, BitVec.toNat_ofNat]; exact Nat.mod_eq_of_lt (by omega)
  show IntKind.i64.wrap ((BitVec.ofInt 64 (a : Int) ||| BitVec.ofInt 64 (b : Int)).toNat : Int) = _
  rw [BitVec.toNat_or, h1, h2]
  simp [IntKind.wrap, IntKind.bits, IntKind.signed]
  omega

/-- How many nodes are on the longest way; for how many numbers of n bits a value is told; the least one. -/
def depthN (L : List Nd) (r : Int) : Nat := fold L (fun _ => 0) (fun _ a b => 1 + max a b) r
def satN (L : List Nd) (n : Nat) (val r : Int) : Nat := fold L (fun t => if valueP t = val then 2 ^ n else 0) (fun _ a b => a / 2 + b / 2) r
def oneN (L : List Nd) (val r : Int) : Nat := fold L (fun t => if valueP t = val then 0 else 4096) (fun v a b => min a (b ||| 2 ^ v.toNat)) r
theorem fold_cast {L : List Nd} (hR : RightL L) {e : Int → Nat} {b : Int → Nat → Nat → Nat} {eF : Int → Int} {bF : Int → Int → Int → Int} (he : ∀ t, eF t = (e t : Int)) (hb : ∀ v x y, bF v ((x : Nat) : Int) ((y : Nat) : Int) = (b v x y : Int)) : ∀ r, fold L eF bF r = ((fold L e b r : Nat) : Int) := by
  refine down hR (fun r hr => ?_) fun k x hx _ _ h2 h3 => ?_
  · rw [fold_out hr, fold_out hr, he]
  · rw [fold_node hR hx, fold_node hR hx, h2, h3, hb]
theorem depth_cost {L : List Nd} (hR : RightL L) : ∀ r, depthN L r ≤ costP L r := by
  refine down hR (fun r hr => ?_) fun k x hx _ _ h2 h3 => ?_
  · rw [show depthN L r = 0 from fold_out hr]; exact Nat.zero_le _
  · rw [show depthN L (k : Int) = 1 + max (depthN L x.2.1) (depthN L x.2.2) from fold_node hR hx, show costP L (k : Int) = costP L x.2.1 + costP L x.2.2 + 1 from fold_node hR hx]
    omega
theorem sat_le {L : List Nd} (hR : RightL L) (n : Nat) (val : Int) : ∀ r, satN L n val r ≤ 2 ^ n := by
  refine down hR (fun r hr => ?_) fun k x hx _ _ h2 h3 => ?_
  · rw [show satN L n val r = if valueP r = val then 2 ^ n else 0 from fold_out hr]
    split
    · exact Nat.le_refl _
    · exact Nat.zero_le _
  · rw [show satN L n val (k : Int) = satN L n val x.2.1 / 2 + satN L n val x.2.2 / 2 from fold_node hR hx]
    omega
theorem one_lt {L : List Nd} (hR : RightL L) (val : Int) : ∀ r, oneN L val r < 8192 := by
  refine down hR (fun r hr => ?_) fun k x hx _ _ h2 h3 => ?_
  · rw [show oneN L val r = if valueP r = val then 0 else 4096 from fold_out hr]
    split <;> omega
  · rw [show oneN L val (k : Int) = min (oneN L val x.2.1) (oneN L val x.2.2 ||| 2 ^ x.1.toNat) from fold_node hR hx]
    omega
section
variable {W : World} {own : Nat → Prop} {p lim : Nat} {L : List Nd} {f : Int}
theorem depth_any (h : Arena W own p lim L) : Calls Try.prog 20 #[.pointer (some ⟨p, 0, none⟩), .int .i64 f] W (RetX (depthN L f) W) := by
  have hR := h.right
  have hc := fun r => fold_cast (L := L) hR (e := fun _ => 0) (b := fun _ a b => 1 + max a b) (eF := fun _ => 0) (bF := fun _ x y => 1 + max x y) (fun _ => rfl) (fun _ x y => by omega) r
  have hd : ∀ r, fold L (fun t => (fun _ => (0 : Int)) (valueP t)) (fun _ x y => 1 + max x y) r = (depthN L r : Int) := hc
  have hk := reckon_any h f (ge := 43) (kb := 44) (le := #[]) (lb := #[]) (eF := fun _ => 0) (bF := fun _ x y => 1 + max x y)
    (enters_of Try.func43 (by kernel_rfl) rfl) (enters_of Try.func44 (by kernel_rfl) rfl)
    (fun k W1 _ => by
      show Calls Try.prog 43 #[.int .i64 k] W1 _
      go_enter Try.func43, Try.ntmps43
      go_wp2_with fail
      go_ret
      exact ⟨rfl, Below.refl _ _⟩)
    (fun v r s W1 _ _ _ => by
      rw [hd, hd]
      have b1 := depth_cost hR r
      have b2 := depth_cost hR s
      have c1 := cost_lt hR r
      have c2 := cost_lt hR s
      obtain ⟨x, hx⟩ : ∃ x, (depthN L r : Int) = x := ⟨_, rfl⟩
      obtain ⟨y, hy⟩ : ∃ y, (depthN L s : Int) = y := ⟨_, rfl⟩
      rw [hx, hy]
      have hw : wrap64 (1 + max x y) = 1 + max x y := wrap64_at (by omega) (by omega)
      clear hx hy b1 b2 c1 c2 hd hc hR h
      show Calls Try.prog 44 #[.int .i64 v, .int .i64 x, .int .i64 y] W1 _
      go_enter Try.func44, Try.ntmps44
      go_wp2_with fail
      go_ret
      exact ⟨by rw [hw]; rfl, Below.refl _ _⟩)
    (fun r => by
      rw [hd]
      have := depth_cost hR r
      have := cost_lt hR r
      unfold I64
      omega)
  rw [hd] at hk
  have HK := Lib.hid hk
  clear hk hd hc hR h
  go_enter Try.func20, Try.ntmps20
  go_wp2_with (go_at_call 32; ((with_reducible refine HK.out.mono ?_); rintro e w1 ⟨rfl, hb1⟩))
  go_ret
  exact ⟨rfl, hb1⟩
def RetOne (x : Int) (b : Bool) (w : World) (e : Ending) (w' : World) : Prop := e = .returned (.tuple #[.int .u64 x, .bool b]) ∧ Below w.heap.size w w'
theorem box_at {W W1 : World} {x : Value} {t : TypeId} (hb : Below (W.alloc (.cells #[x] t)).heap.size (W.alloc (.cells #[x] t)) W1) : W1.cell? ⟨W.heap.size, 0, none⟩ = some x :=
  ((Blk.new W t #[x]).below hb (by simp)).cell 0
theorem one_none (h : Arena W own p lim L) (hf : hasP L.length f = false) (val : Int) : Calls Try.prog 12 #[.pointer (some ⟨p, 0, none⟩), .int .i64 f, .int .i64 val] W (RetOne 0 false W) := by
  have hb := (Below.refl W.heap.size W).alloc (Nat.le_refl _) (.cells #[.int .i64 val] 3)
  have hh := arena_has (r := f) (h.below hb)
  rw [hf] at hh
  have HH := Lib.hid hh
  have HB := Lib.hid hb
  clear h hf hh hb
  go_enter Try.func12, Try.ntmps12
  go_wp2_with (go_at_call 24; ((with_reducible refine HH.out.mono ?_); rintro e w1 ⟨rfl, rfl⟩))
  go_ret2
  exact ⟨rfl, HB.out⟩
theorem one_reckon (h : Arena W own p lim L) (val : Int) {W0 : World} {bx : Nat} (hx : ∀ W1, Below W.heap.size W W1 → W1.cell? ⟨bx, 0, none⟩ = some (.int .i64 val)) (_ : W0 = W) :
    Calls Try.prog 32 #[.pointer (some ⟨p, 0, none⟩), .int .i64 f, .func (.func 31) #[] #[.pointer (some ⟨bx, 0, none⟩)], .func (.func 33) #[] #[]] W (RetX (oneN L val f) W) := by
  have hR := h.right
  have hd : ∀ r, fold L (fun t => (fun k => (if k = val then (0 : Int) else 4096)) (valueP t)) (fun v x y => ((min x.toNat (y.toNat ||| 2 ^ v.toNat) : Nat) : Int)) r = (oneN L val r : Int) := fun r =>
    fold_cast (L := L) hR (e := fun t => if valueP t = val then 0 else 4096) (b := fun v a b => min a (b ||| 2 ^ v.toNat)) (fun t => by dsimp only; split <;> rfl) (fun v x y => by simp) r
  have hk := reckon_any h f (ge := 31) (kb := 33) (le := #[.pointer (some ⟨bx, 0, none⟩)]) (lb := #[]) (eF := fun k => if k = val then 0 else 4096) (bF := fun v x y => ((min x.toNat (y.toNat ||| 2 ^ v.toNat) : Nat) : Int))
    (enters_of Try.func31 (by kernel_rfl) rfl) (enters_of Try.func33 (by kernel_rfl) rfl)
    (fun k W1 hw => by
      have c0 := hx W1 hw
      clear hd hR h hx hw
      show Calls Try.prog 31 #[.int .i64 k, .pointer (some ⟨bx, 0, none⟩)] W1 _
      by_cases hk : k = val
      · subst hk
        go_enter Try.func31, Try.ntmps31
        go_wp2_with fail
        go_ret
        exact ⟨by simp, Below.refl _ _⟩
      · go_enter Try.func31, Try.ntmps31
        go_wp2_with fail
        go_ret
        exact ⟨rfl, Below.refl _ _⟩)
    (fun v r s W1 h0 h1 _ => by
      rw [hd, hd]
      have b1 := one_lt hR val r
      have b2 := one_lt hR val s
      obtain ⟨x, hx'⟩ : ∃ x, oneN L val r = x := ⟨_, rfl⟩
      obtain ⟨y, hy⟩ : ∃ y, oneN L val s = y := ⟨_, rfl⟩
      obtain ⟨u, rfl⟩ : ∃ u : Nat, v = (u : Int) := ⟨v.toNat, by omega⟩
      rw [hx'] at b1 ⊢
      rw [hy] at b2 ⊢
      have hp : 2 ^ u < 4611686018427387904 := Nat.lt_of_lt_of_le (Nat.pow_lt_pow_right (by omega) (show u < 13 by omega)) (by omega)
      have hw : wrap64 (2 ^ u) = ((2 ^ u : Nat) : Int) := by
        have e : ((2 : Int) ^ u) = ((2 ^ u : Nat) : Int) := by rw [Int.natCast_pow]; rfl
        rw [e]
        obtain ⟨q, hq⟩ : ∃ q, 2 ^ u = q := ⟨_, rfl⟩
        rw [hq] at hp ⊢
        exact wrap64_at (by omega) (by omega)
      have ho := bits_or_i64_nat y (2 ^ u) (by omega) hp
      have hm : min (x : Int) ((y ||| 2 ^ u : Nat) : Int) = ((min x (y ||| 2 ^ u) : Nat) : Int) := by omega
      have hu : ((u : Int)).toNat = u := rfl
      have h12 : u < 12 := by omega
      rw [hu]
      simp only [Int.toNat_natCast]
      obtain ⟨m, hm2⟩ : ∃ m, min x (y ||| 2 ^ u) = m := ⟨_, rfl⟩
      rw [hm2] at hm ⊢
      have hm3 : min (x : Int) (bits .or .i64 (y : Int) (wrap64 (2 ^ u))) = (m : Int) := by rw [hw, ho, hm]
      clear hx' hy hd hR h b1 b2 hw ho hm hx hm2 hp h0 h1
      show Calls Try.prog 33 #[.int .i64 (u : Int), .int .i64 (x : Int), .int .i64 (y : Int)] W1 _
      go_enter Try.func33, Try.ntmps33
      go_wp2_with fail
      go_ret
      exact ⟨by first | rfl | (rw [hm3]; rfl), Below.refl _ _⟩)
    (fun r => by
      rw [hd]
      have := one_lt hR val r
      unfold I64
      omega)
  rw [hd] at hk
  exact hk
set_option maxRecDepth 100000 in
theorem one_some (h : Arena W own p lim L) (hf : hasP L.length f = true) (val : Int) : Calls Try.prog 12 #[.pointer (some ⟨p, 0, none⟩), .int .i64 f, .int .i64 val] W (RetOne (if 4096 ≤ oneN L val f then 0 else (oneN L val f : Int)) (decide (oneN L val f < 4096)) W) := by
  have hb := (Below.refl W.heap.size W).alloc (Nat.le_refl _) (.cells #[.int .i64 val] 3)
  have hh := arena_has (r := f) (h.below hb)
  rw [hf] at hh
  have HK := Lib.hid (one_reckon (f := f) (h.below hb) val (bx := W.heap.size) (fun W1 hw => box_at hw) rfl)
  have hlt := one_lt h.right val f
  have HH := Lib.hid hh
  have HB := Lib.hid hb
  obtain ⟨x, hx⟩ : ∃ x, oneN L val f = x := ⟨_, rfl⟩
  rw [hx] at hlt HK ⊢
  clear h hf hh hb hx
  by_cases h4 : 4096 ≤ x
  · rw [if_pos h4, decide_eq_false (by omega)]
    go_enter Try.func12, Try.ntmps12
    go_wp2_with (first
      | (go_at_call 24; ((with_reducible refine HH.out.mono ?_); rintro e w1 ⟨rfl, rfl⟩))
      | (go_at_call 32; ((with_reducible refine HK.out.mono ?_); rintro e w2 ⟨rfl, hb2⟩); have HB2 := Lib.hid (HB.out.trans (hb2.mono HB.out.size)); clear hb2))
    go_ret2
    exact ⟨rfl, HB2.out⟩
  · rw [if_neg h4, decide_eq_true (by omega)]
    have hw : IntKind.u64.wrap (x : Int) = (x : Int) := by rw [IntKind.wrap_u64]; omega
    go_enter Try.func12, Try.ntmps12
    go_wp2_with (first
      | (go_at_call 24; ((with_reducible refine HH.out.mono ?_); rintro e w1 ⟨rfl, rfl⟩))
      | (go_at_call 32; ((with_reducible refine HK.out.mono ?_); rintro e w2 ⟨rfl, hb2⟩); have HB2 := Lib.hid (HB.out.trans (hb2.mono HB.out.size)); clear hb2))
    go_ret2
    exact ⟨rfl, HB2.out⟩
/-- What Sat reckons, n being had. -/
theorem sat_reckon (h : Arena W own p lim L) (val : Int) {n bx bn : Nat} (hn : n ≤ 12) (hx : ∀ W1, Below W.heap.size W W1 → W1.cell? ⟨bx, 0, none⟩ = some (.int .i64 val) ∧ W1.cell? ⟨bn, 0, none⟩ = some (.int .i64 (n : Int))) :
    Calls Try.prog 32 #[.pointer (some ⟨p, 0, none⟩), .int .i64 f, .func (.func 37) #[] #[.pointer (some ⟨bx, 0, none⟩), .pointer (some ⟨bn, 0, none⟩)], .func (.func 38) #[] #[]] W (RetX (satN L n val f) W) := by
  have hR := h.right
  have hp : 2 ^ n ≤ 4096 := Nat.le_trans (Nat.pow_le_pow_right (by omega) hn) (by omega)
  have hd : ∀ r, fold L (fun t => (fun k => (if k = val then ((2 ^ n : Nat) : Int) else 0)) (valueP t)) (fun _ x y => ((x.toNat / 2 + y.toNat / 2 : Nat) : Int)) r = (satN L n val r : Int) := fun r =>
    fold_cast (L := L) hR (e := fun t => if valueP t = val then 2 ^ n else 0) (b := fun _ a b => a / 2 + b / 2) (fun t => by dsimp only; split <;> rfl) (fun v x y => by simp) r
  have hk := reckon_any h f (ge := 37) (kb := 38) (le := #[.pointer (some ⟨bx, 0, none⟩), .pointer (some ⟨bn, 0, none⟩)]) (lb := #[]) (eF := fun k => if k = val then ((2 ^ n : Nat) : Int) else 0) (bF := fun _ x y => ((x.toNat / 2 + y.toNat / 2 : Nat) : Int))
    (enters_of Try.func37 (by kernel_rfl) rfl) (enters_of Try.func38 (by kernel_rfl) rfl)
    (fun k W1 hw => by
      obtain ⟨c0, c1⟩ := hx W1 hw
      have hw64 : wrap64 (2 ^ n) = ((2 ^ n : Nat) : Int) := by
        have e : ((2 : Int) ^ n) = ((2 ^ n : Nat) : Int) := by rw [Int.natCast_pow]; rfl
        rw [e]
        obtain ⟨q, hq⟩ : ∃ q, 2 ^ n = q := ⟨_, rfl⟩
        rw [hq] at hp ⊢
        exact wrap64_at (by omega) (by omega)
      clear hd hR h hx hw hp
      show Calls Try.prog 37 #[.int .i64 k, .pointer (some ⟨bx, 0, none⟩), .pointer (some ⟨bn, 0, none⟩)] W1 _
      by_cases hk : k = val
      · subst hk
        go_enter Try.func37, Try.ntmps37
        go_wp2_with fail
        go_ret
        exact ⟨by simp, Below.refl _ _⟩
      · go_enter Try.func37, Try.ntmps37
        go_wp2_with fail
        go_ret
        exact ⟨rfl, Below.refl _ _⟩)
    (fun v r s W1 h0 h1 _ => by
      rw [hd, hd]
      have b1 := sat_le hR n val r
      have b2 := sat_le hR n val s
      obtain ⟨x, hx'⟩ : ∃ x, satN L n val r = x := ⟨_, rfl⟩
      obtain ⟨y, hy⟩ : ∃ y, satN L n val s = y := ⟨_, rfl⟩
      rw [hx'] at b1 ⊢
      rw [hy] at b2 ⊢
      simp only [Int.toNat_natCast]
      have e1 : wrap64 ((x : Int) / 2) = ((x / 2 : Nat) : Int) := by
        have e : (x : Int) / 2 = ((x / 2 : Nat) : Int) := rfl
        rw [e]; exact wrap64_at (by omega) (by omega)
      have e2 : wrap64 ((y : Int) / 2) = ((y / 2 : Nat) : Int) := by
        have e : (y : Int) / 2 = ((y / 2 : Nat) : Int) := rfl
        rw [e]; exact wrap64_at (by omega) (by omega)
      have e3 : wrap64 (wrap64 ((x : Int) / 2) + wrap64 ((y : Int) / 2)) = ((x / 2 + y / 2 : Nat) : Int) := by
        rw [e1, e2]
        exact (wrap64_at (by omega) (by omega)).trans (by omega)
      clear hx' hy hd hR h b1 b2 hx hp h0 h1 e1 e2
      show Calls Try.prog 38 #[.int .i64 v, .int .i64 (x : Int), .int .i64 (y : Int)] W1 _
      go_enter Try.func38, Try.ntmps38
      go_wp2_with fail
      go_ret
      exact ⟨by first | rfl | (rw [e3]; rfl), Below.refl _ _⟩)
    (fun r => by
      rw [hd]
      have := sat_le hR n val r
      unfold I64
      omega)
  rw [hd] at hk
  exact hk
end
end Go.Proofs.Ytcolinjgfcjimaa
