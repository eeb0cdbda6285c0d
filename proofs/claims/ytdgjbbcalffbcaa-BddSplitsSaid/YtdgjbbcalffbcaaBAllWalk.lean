/- The walk of BddAll. -/
import Derived.Test.YtdgjbbcalffbcaaBLaw
namespace Go.Proofs.Ytdgjbbcalffbcaa
open Go.RowKit
attribute [local go_sem ↓] Go.wp_at_zero Go.wp_at_succ

theorem new_any16 (n : Int) (w : World) : Calls Try.prog 10 #[.int .i64 65536, .int .i64 n] w (RetMgr 65536 w) := New_any 65536 n (by omega) w
open Classical in
noncomputable def narrowP (f : Nat → Opn) (i : Nat) : Bool := decide (∀ j, j < i → (f j).v < 6)
theorem narrow_next (f : Nat → Opn) (i : Nat) : narrowP f (i + 1) = (narrowP f i && decide ((f i).v < 6)) := by
  unfold narrowP
  rw [Bool.eq_iff_iff]
  simp only [decide_eq_true_eq, Bool.and_eq_true]
  constructor
  · intro h
    exact ⟨fun j hj => h j (by omega), h i (by omega)⟩
  · rintro ⟨h1, h2⟩ j hj
    rcases (show j < i ∨ j = i by omega) with h | rfl
    · exact h1 j h
    · exact h2
set_option maxRecDepth 100000 in
set_option maxHeartbeats 6400000 in
theorem all_main (cache : Int) (f : Nat → Opn) (As : Option Addr) (ml cs : Nat) (w : World) (_hc : -9223372036854775808 ≤ cache ∧ cache ≤ 9223372036854775807) (hm : ml ≤ 9223372036854775807) (_hmc : ml ≤ cs) (hO : Ops w As ml f) :
    Calls Try.prog 3 #[.int .i64 cache, .slice As ml cs] w fun e w' => e = .returned (.bool true) ∧ Below w.heap.size w w' := by
  have HO := Lib.hid hO
  have mn := m_nil
  have mnn := m_nnil
  clear hO
  by_cases hfar : 20 < ml
  · have e0 : decide ((20 : Int) < (ml : Int)) = true := decide_eq_true (by omega)
    go_enter Try.func3, Try.ntmps3
    go_wp2_with (first
      | (go_at_call 10; ((with_reducible refine (new_any16 _ _).mono ?_); rintro e w1 ⟨m, own, rfl, hM, hb1, hw, -⟩); have HB1 := Lib.hid hb1; clear hb1)
      | (go_at_call 11; ((with_reducible refine (alive_any _).mono ?_); rintro e w9 ⟨rfl, hb9⟩); have HB9 := Lib.hid (HB1.out.trans (hb9.mono HB1.out.size)); clear hb9))
    go_ret
    exact ⟨rfl, HB9.out⟩
  have hml : ml ≤ 20 := by omega
  have HML := Lib.hid hml
  have e0 : decide ((20 : Int) < (ml : Int)) = false := decide_eq_false (by omega)
  clear hfar
  go_enter Try.func3, Try.ntmps3
  go_wp2_with (first
    | (go_at_call 10; ((with_reducible refine (new_any16 _ _).mono ?_); rintro e w1 ⟨m, own, rfl, hM, hb1, hw, -⟩); have HM := Lib.hid hM; have HB1 := Lib.hid hb1; have HW := Lib.hid hw; clear hM hb1 hw)
    | (go_at_call 12; ((with_reducible refine (run_law HM.out HB1.out HW.out HO.out HML.out).mono ?_); rintro e w2 ⟨full, rl, tl, Fl, L, ow, vl, vt, rfl, hI⟩); (obtain ⟨gl, cl, gt, ct, e8, e9⟩ := hI.form); subst e8; subst e9; have HI := Lib.hid hI; clear hI))
  have HL2 := Lib.hid (went_low HW.out HB1.out HI.out.mem.went)
  go_loopg [10, 40] ml (fun gk t10 t40 wr => ∃ i : Nat, i + gk = ml ∧ t40 = .int .i64 (i : Int) ∧ t10 = .bool (narrowP f i) ∧ Below w2.heap.size w2 wr)
  case atStart => exact ⟨0, by omega, rfl, by unfold narrowP; simp, Below.refl _ _⟩
  case round =>
    rename Nat => g0
    obtain ⟨i, hgi, rfl, rfl, hb⟩ := hrel
    have HB := Lib.hid hb
    have HG := Lib.hid hgi
    clear hb hgi
    by_cases him : i < ml
    · obtain ⟨bs, off, hA, hlt, k0, k1, k2, k3, k4, k5⟩ := (HO.out.below (HL2.out.trans (HB.out.mono HL2.out.size))).named him
      have HN := Lib.hid (narrow_next f i)
      obtain ⟨o, ho⟩ : ∃ o, f i = o := ⟨_, rfl⟩
      rw [ho] at k0 k1 k2 k3 k4 k5 HN
      subst hA
      have HB' := Lib.hid (HB.out.trans (((Below.refl wr.heap.size wr).alloc (Nat.le_refl _) (.cells #[.int .i64 o.kind, .int .i64 o.v, .int .i64 o.a, .int .i64 o.b, .int .i64 o.c, .bool o.yes] 31)).mono HB.out.size))
      clear ho
      obtain ⟨x, hx⟩ : ∃ x, narrowP f i = x := ⟨_, rfl⟩
      rw [hx] at HN ⊢
      cases x
      all_goals
        clear hx
        go_wp2_with fail
        have hG0 := HG.out
        go_roundg (g0 - 1)
        case measure => omega
        case rel => exact ⟨i + 1, by omega, by go_num, by rw [HN.out]; rfl, HB'.out⟩
    · have hie : i = ml := by have := HG.out; omega
      subst hie
      go_wp2_with fail
      have HI3 := Lib.hid (HI.out.below HB.out)
      go_loopg [53] rl.length (fun gk t53 wq => ∃ (j : Nat) (ow2 : Nat → Prop), j + gk = rl.length ∧ t53 = .int .i64 (j : Int) ∧ RunI w1 own m 65536 [] f i full rl tl Fl L ow2 (.slice (some ⟨gl, 0, none⟩) rl.length cl) (.slice (some ⟨gt, 0, none⟩) rl.length ct) wq)
      case atStart => exact ⟨0, ow, by omega, rfl, HI3.out⟩
      case round =>
        rename Nat => g1
        obtain ⟨j, ow2, hgj, rfl, hJ⟩ := hrel
        have HJ := Lib.hid hJ
        have HGj := Lib.hid hgj
        have hlen := hJ.len2
        clear hJ hgj
        by_cases hjn : j < rl.length
        · obtain ⟨r, F, gv, cv, -, -, htl, htb, hsz, c1, c2, hno, hnv⟩ := HJ.out.at_ hjn
          have hbd : Below wr.heap.size wr wr.drew := (Below.refl _ _).drew
          have HSay := Lib.hid (says_any (HJ.out.mem.mg.below hbd) (htb.below hbd) htl)
          have K0 : Hid ((gl < wr.drew.heap.size ∧ gt < wr.drew.heap.size) ∧ wr.drew.cell? ⟨gl, j, none⟩ = some (.int .i64 r) ∧ wr.drew.cell? ⟨gt, j, none⟩ = some (.slice (some ⟨gv, 0, none⟩) 4096 cv)) := Lib.hid ⟨hsz, c1, c2⟩
          have HNo := Lib.hid hno
          have HQd := Lib.hid (Went.of_below hbd ow2)
          clear htl htb hsz c1 c2 hno hnv hbd
          go_wp2_with fail
          go_region_held3 (fun w => ((gl < w.heap.size ∧ gt < w.heap.size) ∧ w.cell? ⟨gl, j, none⟩ = some (.int .i64 r) ∧ w.cell? ⟨gt, j, none⟩ = some (.slice (some ⟨gv, 0, none⟩) 4096 cv)))
            (first | (with_reducible exact K0.out) | (with_reducible exact went_two q4 HNo.out K0.out))
            (first | (go_at_call 13; ((with_reducible refine HSay.out.mono ?_); rintro e w4 ⟨ow4, rfl, m4, q4⟩)))
          go_wp2_with fail
          have HJ4 := Lib.hid (HJ.out.moveS (HQd.out.trans q4) m4)
          have hG1 := HGj.out
          go_roundg (g1 - 1)
          case measure => omega
          case rel => exact ⟨j + 1, ow4, by omega, by go_num, HJ4.out⟩
        · have hje : j = rl.length := by have := HGj.out; omega
          subst hje
          have HLow := Lib.hid (went_low HW.out HB1.out HJ.out.mem.went)
          have hfu : narrowP f i = true → full = 0 := fun hn => none_full HJ.out.plain HML.out (by unfold narrowP at hn; simpa using hn)
          obtain ⟨x, hx⟩ : ∃ x, narrowP f i = x := ⟨_, rfl⟩
          rw [hx] at hfu ⊢
          have HFu := Lib.hid hfu
          clear hx hfu
          cases x
          · go_wp2_with (go_at_call 11; ((with_reducible refine (alive_any _).mono ?_); rintro e w9 ⟨rfl, hb9⟩); have HB9 := Lib.hid (HLow.out.trans (hb9.mono HLow.out.size)); clear hb9)
            go_ret
            exact ⟨rfl, HB9.out⟩
          · have h0 := HFu.out rfl
            subst h0
            go_wp2_with (go_at_call 11; ((with_reducible refine (alive_any _).mono ?_); rintro e w9 ⟨rfl, hb9⟩); have HB9 := Lib.hid (HLow.out.trans (hb9.mono HLow.out.size)); clear hb9)
            go_ret
            exact ⟨rfl, HB9.out⟩
end Go.Proofs.Ytdgjbbcalffbcaa
