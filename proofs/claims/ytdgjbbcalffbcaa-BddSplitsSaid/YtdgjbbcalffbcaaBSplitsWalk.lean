/- The walk of BddSplits. -/
import Derived.Test.YtdgjbbcalffbcaaBHigh
import Derived.Test.YtdgjbbcalffbcaaBSupportWalk
import Derived.Test.YtdgjbbcalffbcaaBCacheWalk
namespace Go.Proofs.Ytdgjbbcalffbcaa
open Go.RowKit
attribute [local go_sem ↓] Go.wp_at_zero Go.wp_at_succ

/-- Behind a run, and c calls. -/
structure SI (w1 : World) (own : Nat → Prop) (m : Nat) (rl : List Int) (tl : List Value) (Fl : List (Nat → Bool)) (vl vt : Value) (V c : Nat) (L : List Nd) (ow : Nat → Prop) (W : World) : Prop where
  mem : RunM w1 own m 65536 L rl tl ow vl vt W
  tells : ∀ (j : Nat) r F, rl[j]? = some r → Fl[j]? = some F → Tells L F r
  low : lowN 9 L ≤ c * 511
/-- A call that tells. -/
def RetS (F : Nat → Bool) (w1 : World) (own : Nat → Prop) (m : Nat) (rl : List Int) (tl : List Value) (Fl : List (Nat → Bool)) (vl vt : Value) (V c : Nat) (L : List Nd) (e : Ending) (w' : World) : Prop :=
  ∃ (x : Int) (L2 : List Nd) (ow2 : Nat → Prop), e = .returned (.tuple #[.int .i64 x, .nilIface]) ∧ SI w1 own m rl tl Fl vl vt V (c + 1) L2 ow2 w' ∧ (∀ G y, Tells L G y → Tells L2 G y) ∧ Tells L2 F x
section
variable {w1 : World} {own : Nat → Prop} {m : Nat} {rl : List Int} {tl : List Value} {Fl : List (Nat → Bool)} {vl vt : Value} {V c : Nat} {L : List Nd} {ow : Nat → Prop} {W : World}
theorem SI.below (h : SI w1 own m rl tl Fl vl vt V c L ow W) {W1 : World} (hb : Below W.heap.size W W1) : SI w1 own m rl tl Fl vl vt V c L ow W1 := ⟨h.mem.below hb, h.tells, h.low⟩
theorem SI.pub (h : SI w1 own m rl tl Fl vl vt V c L ow W) (hc : c ≤ 82) {F : Nat → Bool} {u : Int} {e : Ending} {w' : World} (hr : RetPub F u ow m 65536 L W e w') : RetS F w1 own m rl tl Fl vl vt V c L e w' := by
  obtain ⟨ow2, L2, h2, q2, g2, x, ev, rfl, ht⟩ := hr
  have hlow : lowN 9 L2 ≤ (c + 1) * 511 := by
    have := g2.few 9
    have := h.low
    rw [Nat.add_mul]
    omega
  rcases ht with ⟨rfl, ht⟩ | ⟨-, b, a, -, -, hfull⟩
  · refine ⟨x, L2, ow2, rfl, ⟨h.mem.move q2 h2, fun j r G h3 h4 => tells_grow h.mem.mg.right (h.tells j r G h3 h4) g2.more, hlow⟩, fun G y hy => tells_grow h.mem.mg.right hy g2.more, ht⟩
  · exfalso
    have := room h2.right h2.bools hlow (by omega)
    omega
theorem RetS.fn_eq {F G : Nat → Bool} {e : Ending} {w' : World} (h : RetS F w1 own m rl tl Fl vl vt V c L e w') (he : ∀ b, F b = G b) : RetS G w1 own m rl tl Fl vl vt V c L e w' := by
  rw [← funext he]
  exact h
theorem si_var (h : SI w1 own m rl tl Fl vl vt V c L ow W) (hc : c ≤ 82) (hV : V < 12) : Calls Try.prog 28 #[.pointer (some ⟨m, 0, none⟩), .int .i64 V] W (RetS (fun b => b.testBit V) w1 own m rl tl Fl vl vt V c L) :=
  (Var_good h.mem.mg (by omega) hV).mono fun _ _ hr => h.pub hc hr
theorem si_restrict (h : SI w1 own m rl tl Fl vl vt V c L ow W) (hc : c ≤ 82) (hV : V < 12) {F : Nat → Bool} {r : Int} (ht : Tells L F r) (on : Bool) : Calls Try.prog 23 #[.pointer (some ⟨m, 0, none⟩), .int .i64 r, .int .i64 V, .bool on] W (RetS (fun b => F (setBit b V on)) w1 own m rl tl Fl vl vt V c L) :=
  (Restrict_good h.mem.mg (by omega) ht.1 hV 0).mono fun _ _ hr => (h.pub hc hr).fn_eq fun b => ht.2 _
theorem si_exists (h : SI w1 own m rl tl Fl vl vt V c L ow W) (hc : c ≤ 82) (hV : V < 12) {F : Nat → Bool} {r : Int} (ht : Tells L F r) : Calls Try.prog 29 #[.pointer (some ⟨m, 0, none⟩), .int .i64 r, .int .i64 V] W (RetS (fun b => F (setBit b V false) || F (setBit b V true)) w1 own m rl tl Fl vl vt V c L) :=
  (Exists_good h.mem.mg (by omega) ht.1 hV 0).mono fun _ _ hr => (h.pub hc hr).fn_eq fun b => by rw [ht.2, ht.2]
theorem si_ite (h : SI w1 own m rl tl Fl vl vt V c L ow W) (hc : c ≤ 82) {F : Nat → Bool} {x y z : Int} (hx : Tells L (fun b => b.testBit V) x) (hy : Tells L (fun b => F (setBit b V true)) y) (hz : Tells L (fun b => F (setBit b V false)) z) : Calls Try.prog 22 #[.pointer (some ⟨m, 0, none⟩), .int .i64 x, .int .i64 y, .int .i64 z] W (RetS F w1 own m rl tl Fl vl vt V c L) :=
  (Ite_good h.mem.mg (by omega) hx.1 hy.1 hz.1 0).mono fun _ _ hr => (h.pub hc hr).fn_eq fun b => by
    rw [hx.2, hy.2, hz.2]
    show (if b.testBit V = true then F (setBit b V true) else F (setBit b V false)) = F b
    split
    · rename_i hb
      rw [set_self hb]
    · rename_i hb
      rw [set_self (Bool.eq_false_iff.2 hb)]
theorem si_compose (h : SI w1 own m rl tl Fl vl vt V c L ow W) (hc : c ≤ 82) (hV : V < 12) {F : Nat → Bool} {r x : Int} (ht : Tells L F r) (hx : Tells L (fun b => b.testBit V) x) : Calls Try.prog 24 #[.pointer (some ⟨m, 0, none⟩), .int .i64 r, .int .i64 V, .int .i64 x] W (RetS F w1 own m rl tl Fl vl vt V c L) :=
  (Compose_good h.mem.mg (by omega) ht.1 hV hx.1 0).mono fun _ _ hr => (h.pub hc hr).fn_eq fun b => by
    rw [hx.2, ht.2]
    show F (setBit b V (b.testBit V)) = F b
    rw [set_self rfl]
theorem si_support (h : SI w1 own m rl tl Fl vl vt V c L ow W) {F : Nat → Bool} {x : Int} (ht : Tells L F x) (hF : ∀ b, F (setBit b V false) = F (setBit b V true)) : Calls Try.prog 18 #[.pointer (some ⟨m, 0, none⟩), .int .i64 x] W fun e w' => ∃ (s : Nat) (ow2 : Nat → Prop), e = .returned (.int .u64 (s : Nat)) ∧ SI w1 own m rl tl Fl vl vt V c L ow2 w' ∧ s < 4096 ∧ s.testBit V = false := by
  refine (support_any h.mem.mg x).mono ?_
  rintro e w' ⟨ow2, rfl, m2, q2⟩
  refine ⟨_, ow2, rfl, ⟨h.mem.move q2 m2, h.tells, h.low⟩, supp_lt h.mem.mg.right x, ?_⟩
  cases hb : (suppP L x).testBit V
  · rfl
  · obtain ⟨b, -, hn⟩ := (supp_tells h.mem.mg.right h.mem.mg.bools ht V).1 hb
    exact absurd (hF b) hn
end
theorem setBit_twice (b V : Nat) (on off : Bool) : setBit (setBit b V on) V off = setBit b V off := by
  apply Nat.eq_of_testBit_eq
  intro u
  by_cases hu : u = V
  · subst hu; rw [setBit_at, setBit_at]
  · rw [setBit_other _ _ hu, setBit_other _ _ hu, setBit_other _ _ hu]
theorem half_lacks (F : Nat → Bool) (V : Nat) (on : Bool) (b : Nat) : (fun b => F (setBit b V on)) (setBit b V false) = (fun b => F (setBit b V on)) (setBit b V true) := by
  show F (setBit (setBit b V false) V on) = F (setBit (setBit b V true) V on)
  rw [setBit_twice, setBit_twice]
theorem some_lacks (F : Nat → Bool) (V : Nat) (b : Nat) : (fun b => F (setBit b V false) || F (setBit b V true)) (setBit b V false) = (fun b => F (setBit b V false) || F (setBit b V true)) (setBit b V true) := by
  show (F (setBit (setBit b V false) V false) || F (setBit (setBit b V false) V true)) = (F (setBit (setBit b V true) V false) || F (setBit (setBit b V true) V true))
  rw [setBit_twice, setBit_twice, setBit_twice, setBit_twice]
theorem bit_none {s1 s2 s3 V : Nat} (b1 : s1 < 4096) (b2 : s2 < 4096) (b3 : s3 < 4096) (n1 : s1.testBit V = false) (n2 : s2.testBit V = false) (n3 : s3.testBit V = false) : (bits .and .u64 (bits .or .u64 (bits .or .u64 (s1 : Int) (s2 : Int)) (s3 : Int) / 2 ^ V) 1 == 1) = false := by
  have x12 : s1 ||| s2 < 2 ^ 12 := Nat.or_lt_two_pow (by omega) (by omega)
  have x123 : s1 ||| s2 ||| s3 < 2 ^ 12 := Nat.or_lt_two_pow x12 (by omega)
  rw [bits_or_u64_nat s1 s2 (by omega) (by omega), bits_or_u64_nat (s1 ||| s2) s3 (by omega) (by omega)]
  generalize hz : s1 ||| s2 ||| s3 = z at *
  have hq : (z : Int) / 2 ^ V = ((z / 2 ^ V : Nat) : Int) := by simp
  have hzb : z.testBit V = false := by rw [← hz, Nat.testBit_or, Nat.testBit_or, n1, n2, n3]; rfl
  have hlt : z / 2 ^ V ≤ z := Nat.div_le_self _ _
  rw [hq]
  have ha := bits_and_u64_nat (z / 2 ^ V) 1 (by omega) (by omega)
  rw [show ((1 : Nat) : Int) = 1 from rfl] at ha
  rw [ha, Nat.and_one_is_mod]
  rw [Nat.testBit_eq_decide_div_mod_eq, decide_eq_false_iff_not] at hzb
  have : z / 2 ^ V % 2 = 0 := by omega
  rw [this]
  rfl
theorem si_start {w1 wr : World} {own ow : Nat → Prop} {m i full : Nat} {L : List Nd} {f : Nat → Opn} {rl : List Int} {tl : List Value} {Fl : List (Nat → Bool)} {vl vt : Value} (V : Nat) (h : RunI w1 own m 65536 [] f i full rl tl Fl L ow vl vt wr) : SI w1 own m rl tl Fl vl vt V i L ow wr := by
  refine ⟨h.mem, h.plain.tells, ?_⟩
  have h1 := h.plain.few 9
  have h2 : lowN 9 ([] : List Nd) = 0 := rfl
  omega
set_option maxRecDepth 100000 in
set_option maxHeartbeats 6400000 in
theorem splits_far (cache : Int) (As : Option Addr) (ml cs : Nat) (v : Int) (w : World) (_hc : -9223372036854775808 ≤ cache ∧ cache ≤ 9223372036854775807) (hm : ml ≤ 9223372036854775807) (_hmc : ml ≤ cs) (_hv : -9223372036854775808 ≤ v ∧ v ≤ 9223372036854775807) (hfar : 12 < ml ∨ (ml ≤ 12 ∧ v < 0) ∨ (ml ≤ 12 ∧ 0 ≤ v ∧ 12 ≤ v)) :
    Calls Try.prog 9 #[.int .i64 cache, .slice As ml cs, .int .i64 v] w fun e w' => e = .returned (.bool true) ∧ Below w.heap.size w w' := by
  have mn := m_nil
  have mnn := m_nnil
  rcases hfar with h1 | ⟨h1, h2⟩ | ⟨h1, h2, h3⟩
  · have e0 : decide ((12 : Int) < (ml : Int)) = true := decide_eq_true (by omega)
    go_enter Try.func9, Try.ntmps9
    go_wp2_with (first
      | (go_at_call 10; ((with_reducible refine (new_any16 _ _).mono ?_); rintro e w1 ⟨m, own, rfl, hM, hb1, hw, -⟩); have HB1 := Lib.hid hb1; clear hb1)
      | (go_at_call 11; ((with_reducible refine (alive_any _).mono ?_); rintro e w9 ⟨rfl, hb9⟩); have HB9 := Lib.hid (HB1.out.trans (hb9.mono HB1.out.size)); clear hb9))
    go_ret
    exact ⟨rfl, HB9.out⟩
  · have e0 : decide ((12 : Int) < (ml : Int)) = false := decide_eq_false (by omega)
    have e1 : decide (v < 0) = true := decide_eq_true h2
    go_enter Try.func9, Try.ntmps9
    go_wp2_with (first
      | (go_at_call 10; ((with_reducible refine (new_any16 _ _).mono ?_); rintro e w1 ⟨m, own, rfl, hM, hb1, hw, -⟩); have HB1 := Lib.hid hb1; clear hb1)
      | (go_at_call 11; ((with_reducible refine (alive_any _).mono ?_); rintro e w9 ⟨rfl, hb9⟩); have HB9 := Lib.hid (HB1.out.trans (hb9.mono HB1.out.size)); clear hb9))
    go_ret
    exact ⟨rfl, HB9.out⟩
  · have e0 : decide ((12 : Int) < (ml : Int)) = false := decide_eq_false (by omega)
    have e1 : decide (v < 0) = false := decide_eq_false (by omega)
    have e2 : decide (12 ≤ v) = true := decide_eq_true h3
    go_enter Try.func9, Try.ntmps9
    go_wp2_with (first
      | (go_at_call 10; ((with_reducible refine (new_any16 _ _).mono ?_); rintro e w1 ⟨m, own, rfl, hM, hb1, hw, -⟩); have HB1 := Lib.hid hb1; clear hb1)
      | (go_at_call 11; ((with_reducible refine (alive_any _).mono ?_); rintro e w9 ⟨rfl, hb9⟩); have HB9 := Lib.hid (HB1.out.trans (hb9.mono HB1.out.size)); clear hb9))
    go_ret
    exact ⟨rfl, HB9.out⟩
set_option maxRecDepth 100000 in
set_option maxHeartbeats 6400000 in
theorem splits_near (cache : Int) (f : Nat → Opn) (As : Option Addr) (ml cs V : Nat) (w : World) (_hc : -9223372036854775808 ≤ cache ∧ cache ≤ 9223372036854775807) (h12 : ml ≤ 12) (_hmc : ml ≤ cs) (hO : Ops w As ml f) (hV : V < 12) :
    Calls Try.prog 9 #[.int .i64 cache, .slice As ml cs, .int .i64 (V : Int)] w fun e w' => e = .returned (.bool true) ∧ Below w.heap.size w w' := by
  have mn := m_nil
  have mnn := m_nnil
  have HO := Lib.hid hO
  have HML : Hid (ml ≤ 20) := Lib.hid (by omega)
  have HC0 : Hid (ml ≤ 82) := Lib.hid (by omega)
  have HV := Lib.hid hV
  have e0 : decide ((12 : Int) < (ml : Int)) = false := decide_eq_false (by omega)
  have e1 : decide ((V : Int) < 0) = false := decide_eq_false (by omega)
  have e2 : decide (12 ≤ (V : Int)) = false := decide_eq_false (by omega)
  clear hO
  go_enter Try.func9, Try.ntmps9
  go_wp2_with (first
    | (go_at_call 10; ((with_reducible refine (new_any16 _ w).mono ?_); rintro e w1 ⟨m, own, rfl, hM, hb1, hw, -⟩); have HM := Lib.hid hM; have HB1 := Lib.hid hb1; have HW := Lib.hid hw; clear hM hb1 hw)
    | (go_at_call 12; ((with_reducible refine (run_law HM.out HB1.out HW.out HO.out HML.out).mono ?_); rintro e w2 ⟨full, rl, tl, Fl, L, ow, vl, vt, rfl, hI⟩); (obtain ⟨gl, cl, gt, ct, e8, e9⟩ := hI.form); subst e8; subst e9; have HI := Lib.hid hI; have HLow := Lib.hid (went_low HW.out HB1.out hI.mem.went); clear hI; (rcases Nat.eq_zero_or_pos full with hfu | hfu); (subst hfu))
    | (go_at_call 28; ((with_reducible refine (si_var (si_start V HI.out) HC0.out HV.out).mono ?_); rintro e w3 ⟨bit, L3, ow3, rfl, hS, -, hT⟩); have HS := Lib.hid hS; have HT := Lib.hid hT; clear hS hT)
    | (go_at_call 11; ((with_reducible refine (alive_any w2).mono ?_); rintro e w9 ⟨rfl, hb9⟩); have HB9 := Lib.hid (HLow.out.trans (hb9.mono HLow.out.size)); clear hb9))
  · have hlen := HI.out.len2
    go_loopg [74] rl.length (fun gk t74 wr => ∃ (j : Nat) (L4 : List Nd) (ow4 : Nat → Prop), j + gk = rl.length ∧ t74 = .int .i64 (j : Int) ∧ SI w1 own m rl tl Fl (.slice (some ⟨gl, 0, none⟩) rl.length cl) (.slice (some ⟨gt, 0, none⟩) rl.length ct) V (ml + 1 + 5 * j) L4 ow4 wr ∧ Tells L4 (fun b => b.testBit V) bit)
    case atStart => exact ⟨0, L3, ow3, by omega, rfl, HS.out, HT.out⟩
    case round =>
      rename Nat => g0
      obtain ⟨j, L4, ow4, hgj, rfl, hS4, hT4⟩ := hrel
      have HS4 := Lib.hid hS4
      have HT4 := Lib.hid hT4
      have HG := Lib.hid hgj
      by_cases hin : j < rl.length
      · have hFl := HI.out.plain.same
        obtain ⟨r, F, hr, hF, hTr, hcell⟩ : ∃ (r : Int) (F : Nat → Bool), rl[j]? = some r ∧ Fl[j]? = some F ∧ Tells L4 F r ∧ wr.cell? ⟨gl, j, none⟩ = some (.int .i64 r) := by
          have x1 : rl[j]? = some rl[j] := List.getElem?_eq_getElem hin
          have x2 : Fl[j]? = some Fl[j] := List.getElem?_eq_getElem (by omega)
          exact ⟨_, _, x1, x2, hS4.tells j _ _ x1 x2, row_cells hS4.mem.rowL rfl j _ x1⟩
        have HTr := Lib.hid hTr
        have C0 : Hid (ml + 1 + 5 * j ≤ 82) := Lib.hid (by omega)
        have C1 : Hid (ml + 1 + 5 * j + 1 ≤ 82) := Lib.hid (by omega)
        have C2 : Hid (ml + 1 + 5 * j + 1 + 1 ≤ 82) := Lib.hid (by omega)
        have C3 : Hid (ml + 1 + 5 * j + 1 + 1 + 1 ≤ 82) := Lib.hid (by omega)
        have C4 : Hid (ml + 1 + 5 * j + 1 + 1 + 1 + 1 ≤ 82) := Lib.hid (by omega)
        clear hS4 hT4 hgj hTr hr hF hFl
        go_wp2_with (first
          | (go_at_call 23; ((with_reducible refine (si_restrict HS4.out C0.out HV.out HTr.out false).mono ?_); rintro e wa ⟨lo, La, oa, rfl, hS, hm, ht⟩); have SA := Lib.hid hS; have TL := Lib.hid ht; have TrA := Lib.hid (hm _ _ HTr.out); have TbA := Lib.hid (hm _ _ HT4.out); clear hS hm ht)
          | (go_at_call 23; ((with_reducible refine (si_restrict SA.out C1.out HV.out TrA.out true).mono ?_); rintro e wb ⟨hi, Lb, ob, rfl, hS, hm, ht⟩); have SB := Lib.hid hS; have TH := Lib.hid ht; have TrB := Lib.hid (hm _ _ TrA.out); have TbB := Lib.hid (hm _ _ TbA.out); have TLB := Lib.hid (hm _ _ TL.out); clear hS hm ht)
          | (go_at_call 22; ((with_reducible refine (si_ite SB.out C2.out TbB.out TH.out TLB.out).mono ?_); rintro e wc ⟨bo, Lc, oc, rfl, hS, hm, ht⟩); have SC := Lib.hid hS; have TB := Lib.hid ht; have TrC := Lib.hid (hm _ _ TrB.out); have TbC := Lib.hid (hm _ _ TbB.out); have TLC := Lib.hid (hm _ _ TLB.out); have THC := Lib.hid (hm _ _ TH.out); clear hS hm ht)
          | (go_at_call 29; ((with_reducible refine (si_exists SC.out C3.out HV.out TrC.out).mono ?_); rintro e wd ⟨so, Ld, od, rfl, hS, hm, ht⟩); have SD := Lib.hid hS; have TS := Lib.hid ht; have TrD := Lib.hid (hm _ _ TrC.out); have TbD := Lib.hid (hm _ _ TbC.out); have TLD := Lib.hid (hm _ _ TLC.out); have THD := Lib.hid (hm _ _ THC.out); have TBD := Lib.hid (hm _ _ TB.out); clear hS hm ht)
          | (go_at_call 24; ((with_reducible refine (si_compose SD.out C4.out HV.out TrD.out TbD.out).mono ?_); rintro e we ⟨sa, Le, oe, rfl, hS, hm, ht⟩); (have eb : bo = r := tells_one hS.mem.mg.right hS.mem.mg.bools (hm _ _ TBD.out) (hm _ _ TrD.out)); (have ec : sa = r := tells_one hS.mem.mg.right hS.mem.mg.bools ht (hm _ _ TrD.out)); subst eb; subst ec; have SE := Lib.hid hS; have TbE := Lib.hid (hm _ _ TbD.out); have TLE := Lib.hid (hm _ _ TLD.out); have THE := Lib.hid (hm _ _ THD.out); have TSE := Lib.hid (hm _ _ TS.out); clear hS hm ht)
          | (go_at_call 18; ((with_reducible refine (si_support SE.out TLE.out (half_lacks F V false)).mono ?_); rintro e wf ⟨s1, of1, rfl, hS, b1, n1⟩); have SF := Lib.hid hS; have B1 := Lib.hid b1; have N1 := Lib.hid n1; clear hS b1 n1)
          | (go_at_call 18; ((with_reducible refine (si_support SF.out THE.out (half_lacks F V true)).mono ?_); rintro e wg ⟨s2, og, rfl, hS, b1, n1⟩); have SG := Lib.hid hS; have B2 := Lib.hid b1; have N2 := Lib.hid n1; clear hS b1 n1)
          | (go_at_call 18; ((with_reducible refine (si_support SG.out TSE.out (some_lacks F V)).mono ?_); rintro e wh ⟨s3, oh, rfl, hS, b1, n1⟩); have SH := Lib.hid hS; have B3 := Lib.hid b1; have N3 := Lib.hid n1; clear hS b1 n1))
        · rename_i hbad
          rw [bit_none B1.out B2.out B3.out N1.out N2.out N3.out] at hbad
          cases hbad
        · have hG0 := HG.out
          go_roundg (g0 - 1)
          case measure => omega
          case rel => exact ⟨j + 1, Le, oh, by omega, by go_num, SH.out, TbE.out⟩
      · have hje : j = rl.length := by omega
        have HLow := Lib.hid (went_low HW.out HB1.out hS4.mem.went)
        clear hS4 hT4 hgj
        go_wp2_with (go_at_call 11; ((with_reducible refine (alive_any wr).mono ?_); rintro e w9 ⟨rfl, hb9⟩); have HB9 := Lib.hid (HLow.out.trans (hb9.mono HLow.out.size)); clear hb9)
        go_ret
        exact ⟨rfl, HB9.out⟩
  · go_ret
    exact ⟨rfl, HB9.out⟩
theorem splits_main (cache : Int) (f : Nat → Opn) (As : Option Addr) (ml cs : Nat) (v : Int) (w : World) (hc : -9223372036854775808 ≤ cache ∧ cache ≤ 9223372036854775807) (hm : ml ≤ 9223372036854775807) (hmc : ml ≤ cs) (hO : Ops w As ml f) (hv : -9223372036854775808 ≤ v ∧ v ≤ 9223372036854775807) :
    Calls Try.prog 9 #[.int .i64 cache, .slice As ml cs, .int .i64 v] w fun e w' => e = .returned (.bool true) ∧ Below w.heap.size w w' := by
  by_cases h : ml ≤ 12 ∧ 0 ≤ v ∧ v < 12
  · obtain ⟨h1, h2, h3⟩ := h
    obtain ⟨V, rfl⟩ : ∃ V : Nat, v = (V : Int) := ⟨v.toNat, by omega⟩
    exact splits_near cache f As ml cs V w hc h1 hmc hO (by omega)
  · exact splits_far cache As ml cs v w hc hm hmc hv (by omega)
end Go.Proofs.Ytdgjbbcalffbcaa
