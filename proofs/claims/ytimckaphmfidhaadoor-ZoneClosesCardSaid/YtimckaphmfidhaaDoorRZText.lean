/- The contracts of the document's digits, and of its Text of a bound of a right zone; and of a zone. -/
import Derived.Test.YtimckaphmfidhaaDoorRWalks
import Derived.Test.YtimckaphmfidhaaDoorGText
import Derived.Test.YtimckaphmfidhaaDoorGRef
import Derived.Deep.LoopGhost
namespace Go.Proofs.YtimckaphmfidhaaDoor
open Go.RowKit
attribute [local go_sem ↓] Go.wp_at_zero Go.wp_at_succ

/-- The digits of a number that is not below 0. -/
def digS (n : Int) : ByteArray := ⟨(Lib.decDigits n.toNat).toArray⟩

theorem piece_fin : ∀ i : Fin 10, (⟨#[48, 49, 50, 51, 52, 53, 54, 55, 56, 57]⟩ : ByteArray).extract i.val (i.val + 1) = ⟨#[UInt8.ofNat (48 + i.val)]⟩ := by decide +kernel
theorem digS_one (n : Nat) (h : n < 10) : (⟨#[48, 49, 50, 51, 52, 53, 54, 55, 56, 57]⟩ : ByteArray).extract n (n + 1) = digS n := by
  rw [piece_fin ⟨n, h⟩]
  unfold digS
  rw [Int.toNat_natCast, Lib.decDigits_one h]
theorem digS_more (n : Int) (h : 10 ≤ n) : digS (n / 10) ++ digS (n % 10) = digS n := by
  have e : Lib.decDigits n.toNat = Lib.decDigits (n / 10).toNat ++ Lib.decDigits (n % 10).toNat := by
    conv => lhs; rw [Lib.decDigits, dif_neg (show ¬ n.toNat < 10 by omega)]
    rw [Lib.decDigits_one (show (n % 10).toNat < 10 by omega), show (n / 10).toNat = n.toNat / 10 by omega, show (n % 10).toNat = n.toNat % 10 by omega]
  unfold digS
  rw [e]
  apply WideShapes.bytes_inj
  simp
theorem digS_size (n : Int) (h : n ≤ 9223372036854775807) : (digS n).size ≤ 20 := by
  show (Lib.decDigits n.toNat).toArray.size ≤ 20
  rw [List.size_toArray, Lib.decDigits_length]
  exact Lib.nDigits_le20 _ (by omega)

theorem digits_one (n : Nat) (w : World) (h : n < 10) : Calls Tryd.prog 111 #[.int .i64 n] w fun e w' => e = .returned (.string (digS n)) ∧ w = w' := by
  have HD := Lib.hid (digS_one n h)
  go_enter Tryd.func111, Tryd.ntmps111
  go_wp2_with fail
  go_ret
  exact ⟨congrArg (fun s => Ending.returned (.string s)) HD.out, rfl⟩

set_option maxHeartbeats 1000000 in
theorem digits_any (k : Nat) : ∀ (n : Int) (w : World), 0 ≤ n → n ≤ 9223372036854775807 → n < k → Calls Tryd.prog 111 #[.int .i64 n] w fun e w' => e = .returned (.string (digS n)) ∧ w = w' := by
  induction k with
  | zero => intro n w h0 _ h1; omega
  | succ k ih =>
    intro n w h0 h2 h1
    by_cases h : n < 10
    · obtain ⟨m, rfl⟩ := Int.eq_ofNat_of_zero_le h0
      exact digits_one m w (by omega)
    · have HI := Lib.hid ih
      clear ih
      have z1 := digS_size (n / 10) (by omega)
      have z2 := digS_size (n % 10) (by omega)
      go_enter Tryd.func111, Tryd.ntmps111
      go_wp2_with (go_at_call 111; refine (HI.out _ _ (by omega) (by omega) (by omega)).mono ?_; rintro e w' ⟨rfl, rfl⟩)
      go_ret
      exact ⟨congrArg (fun s => Ending.returned (.string s)) (digS_more n h), rfl⟩

theorem itoa_neg {n : Int} (h : n < 0) : (⟨#[45]⟩ : ByteArray) ++ digS (-n) = ⟨(Lib.itoa n).toArray⟩ := by
  unfold digS Lib.itoa
  rw [if_pos h, show (-n).toNat = n.natAbs by omega]
  apply WideShapes.bytes_inj
  simp
theorem itoa_pos {n : Int} (h : ¬ n < 0) : digS n = ⟨(Lib.itoa n).toArray⟩ := by
  unfold digS Lib.itoa
  rw [if_neg h]

set_option maxHeartbeats 1000000 in
theorem rdigits_any (n : Int) (w : World) (h0 : -9223372036854775808 < n) (h1 : n ≤ 9223372036854775807) : Calls Tryd.prog 96 #[.int .i64 n] w fun e w' => e = .returned (.string ⟨(Lib.itoa n).toArray⟩) ∧ w = w' := by
  by_cases h : n < 0
  · have HI := Lib.hid (itoa_neg h)
    have HD := Lib.hid (digits_any ((-n).toNat + 1) (-n) w (by omega) (by omega) (by omega))
    have z := digS_size (-n) (by omega)
    go_enter Tryd.func96, Tryd.ntmps96
    go_wp2_with (go_at_call 111; refine HD.out.mono ?_; rintro e w' ⟨rfl, rfl⟩)
    go_ret
    exact ⟨congrArg (fun s => Ending.returned (.string s)) HI.out, rfl⟩
  · have HI := Lib.hid (itoa_pos h)
    have HD := Lib.hid (digits_any (n.toNat + 1) n w (by omega) (by omega) (by omega))
    go_enter Tryd.func96, Tryd.ntmps96
    go_wp2_with (go_at_call 111; refine HD.out.mono ?_; rintro e w' ⟨rfl, rfl⟩)
    go_ret
    exact ⟨congrArg (fun s => Ending.returned (.string s)) HI.out, rfl⟩

set_option maxHeartbeats 1000000 in
theorem rbtext_in (b : Int) (w : World) (h : -2305843009213693952 ≤ b ∧ b ≤ 2305843009213693952) : Calls Tryd.prog 57 #[.int .i64 b] w fun e w' => e = .returned (.string (itB b)) ∧ w = w' := by
  have hN : ∀ W, Calls Tryd.prog 49 #[.int .i64 b] W fun e w' => e = .returned (.int .i64 b) ∧ W = w' := fun W => by
    have q := rnear_any b W
    rw [near_in h] at q
    exact q
  have HN := Lib.hid hN
  have h' : (b == 4611686018427387904) = false := by simp; omega
  have h2 : decide (b = 4611686018427387904) = false := decide_eq_false (by omega)
  have HD := Lib.hid (rdigits_any b w (by omega) (by omega))
  clear h hN
  go_enter Tryd.func57, Tryd.ntmps57
  go_wp2_with (first | (go_at_call 49; ((with_reducible refine (HN.out _).mono ?_); rintro e w' ⟨rfl, rfl⟩)) | (go_at_call 88; ((with_reducible refine (rnone_any _).mono ?_); rintro e w' ⟨rfl, rfl⟩)) | (go_at_call 96; refine HD.out.mono ?_; rintro e w' ⟨rfl, rfl⟩))
  go_ret
  exact ⟨rfl, rfl⟩
/-- The first k numbers, written. -/
def pfx (l : List Int) (k : Nat) : List UInt8 := Lib.join ((l.take k).map Lib.itoa) [32]
theorem pfx_one (l : List Int) (x : Int) (h : l[0]? = some x) : pfx l 1 = Lib.itoa x := by
  unfold pfx
  cases l with
  | nil => cases h
  | cons a r =>
    simp only [List.getElem?_cons_zero, Option.some.injEq] at h
    subst h
    exact Lib.join_one _ _
theorem pfx_succ (l : List Int) (k : Nat) (x : Int) (hk : 0 < k) (h : l[k]? = some x) : pfx l (k + 1) = pfx l k ++ [32] ++ Lib.itoa x := by
  unfold pfx
  cases l with
  | nil => cases h
  | cons a r =>
    obtain ⟨k, rfl⟩ : ∃ j, k = j + 1 := ⟨k - 1, by omega⟩
    simp only [List.take_succ_cons, List.map_cons, Lib.join_cons, List.getElem?_cons_succ] at h ⊢
    rw [List.map_take, List.map_take, Lib.joinTail_take_succ [32] (r.map Lib.itoa) k (Lib.itoa x) (by rw [List.getElem?_map, h]; rfl)]
    simp [List.append_assoc]
theorem pfx_len {l : List Int} (h : ∀ x ∈ l, -2305843009213693952 ≤ x ∧ x ≤ 2305843009213693952) (hl : l.length ≤ 49) (k : Nat) : (pfx l k).length ≤ 2000 := by
  unfold pfx
  have ht : ∀ x ∈ l.take k, -2305843009213693952 ≤ x ∧ x ≤ 2305843009213693952 := fun x hx => h x (List.mem_of_mem_take hx)
  have hn : (l.take k).length ≤ 49 := by rw [List.length_take]; omega
  have hb := lens_le _ ht
  match hq : l.take k with
  | [] => show 0 ≤ 2000; omega
  | a :: r =>
    rw [hq] at hb hn
    rw [List.map_cons] at hb ⊢
    rw [Lib.join_length]
    simp only [List.length_cons, List.length_map, List.length_nil] at *
    omega
theorem bytes_app (a b : List UInt8) : (⟨a.toArray⟩ : ByteArray) ++ ⟨b.toArray⟩ = ⟨(a ++ b).toArray⟩ := by
  apply WideShapes.bytes_inj
  simp
/-- While the document writes a zone. -/
structure RT (w : World) (m g c : Nat) (C : Mat) (W : World) : Prop where
  low : Below w.heap.size w W
  zb : Duo W w.heap.size 24 (.int .i64 ((m : Int) - 1)) (.slice (some ⟨g, 0, none⟩) (m * m) c)
  zr : RP m g c C W
set_option maxRecDepth 100000 in
set_option maxHeartbeats 3200000 in
theorem rztext_pts {w : World} {m g c : Nat} {C : Mat} (h0 : 0 < m) (h7 : m ≤ 7) (hC : Closed m C) (hp : RP m g c C w) :
    Calls Tryd.prog 18 #[zoneV ((m : Int) - 1) (some ⟨g, 0, none⟩) (m * m) c] w (RetTx (textZ m (some C)) w) := by
  have hmm : 0 < m * m := Nat.mul_pos h0 h0
  have hm49 : m * m ≤ 49 := Nat.mul_le_mul h7 h7
  have q0 : (((m * m : Nat) : Int) == 0) = false := by simp; omega
  have q1 : decide (m * m = 0) = false := decide_eq_false (by omega)
  have q3 : ((m : Int) * (m : Int) == 0) = false := by rw [← Int.natCast_mul]; exact q0
  have q4 : decide ((m : Int) * (m : Int) = 0) = false := by rw [← Int.natCast_mul]; exact decide_eq_false (by omega)
  have hbw := zboxed w (.cells #[.int .i64 ((m : Int) - 1), .slice (some ⟨g, 0, none⟩) (m * m) c] 24)
  have hX0 : RT w m g c C (w.alloc (.cells #[.int .i64 ((m : Int) - 1), .slice (some ⟨g, 0, none⟩) (m * m) c] 24)) := ⟨(Below.refl _ w).alloc (Nat.le_refl _) _, Duo.new w _ _ _, hp.below hbw⟩
  have X0 := Lib.hid hX0
  have x0 := hX0.zb.cell0
  have x1 := hX0.zb.cell1
  have HB := Lib.hid (flat_bd hC)
  have HL := Lib.hid (flat_len m C)
  have HM := Lib.hid hm49
  have H0 := Lib.hid h0
  clear hp hC hbw hX0 hm49
  go_enter Tryd.func18, Tryd.ntmps18
  go_wp2_with fail
  go_loopg [3, 4] (m * m) (fun gk s t wr => ∃ (k : Nat) (b : ByteArray), k + gk = m * m ∧ t = .int .i64 (k : Int) ∧ s = .string b ∧ b = ⟨(pfx (flatL m C) k).toArray⟩ ∧ RT w m g c C wr)
  case atStart => exact ⟨0, _, by omega, rfl, rfl, rfl, X0.out⟩
  case round =>
    rename Nat => g0
    obtain ⟨k, b, hk', rfl, rfl, hb, hD⟩ := hrel
    have HK := Lib.hid hk'
    have X := Lib.hid hD
    have HBk := Lib.hid hb
    have y0 := hD.zb.cell0
    have y1 := hD.zb.cell1
    have y2 := hD.zb.lt
    clear hk' hD X0 x0 x1
    by_cases hkmm : k < m * m
    · have d1 : decide ((k : Int) < ((m * m : Nat) : Int)) = true := decide_eq_true (by omega)
      have d2 : decide ((k : Int) < (m : Int) * (m : Int)) = true := by rw [← Int.natCast_mul]; exact d1
      have i1 : (k : Int) < ((m * m : Nat) : Int) := by omega
      have i2 : (k : Int) < (m : Int) * (m : Int) := by rw [← Int.natCast_mul]; exact i1
      obtain ⟨c0, c1⟩ := X.out.zr.at_ hkmm
      have hx := fl_at C hkmm
      obtain ⟨x, hxe⟩ : ∃ x, fl m C k = x := ⟨_, rfl⟩
      rw [hxe] at c0 hx
      have HX := Lib.hid hx
      have hbx := HB.out x (List.mem_of_getElem? hx)
      have HTx := Lib.hid (fun W => rbtext_in x W hbx)
      have z1 : b.size ≤ 2000 := by
        rw [hb]
        show (pfx (flatL m C) k).toArray.size ≤ 2000
        rw [List.size_toArray]
        exact pfx_len HB.out (by have := HL.out; have := HM.out; omega) k
      have z2 : (itB x).size ≤ 21 := by
        show (Lib.itoa x).toArray.size ≤ 21
        rw [List.size_toArray]
        exact titoa_len x hbx
      have z3 : (b ++ (⟨#[32]⟩ : ByteArray)).size ≤ 2001 := by rw [ByteArray.size_append]; show b.size + 1 ≤ 2001; omega
      have wk : IntKind.i64.wrap ((k : Int) + 1) = (k : Int) + 1 := IntWalk.i64_in _ (by have := HM.out; omega)
      obtain ⟨s, hs⟩ : ∃ s, itB x = s := ⟨_, rfl⟩
      rw [hs] at HTx z2
      have HS := Lib.hid hs
      clear hx hbx hxe hb hs
      by_cases h0k : 0 < k
      · have e1 : decide ((0 : Int) < (k : Int)) = true := decide_eq_true (by omega)
        have e2 : decide (0 < k) = true := decide_eq_true h0k
        go_wp2_with (go_at_call 57; ((with_reducible refine (HTx.out _).mono ?_); rintro e w4 ⟨rfl, hw4⟩); subst hw4)
        have hk' := HK.out
        go_roundg (g0 - 1)
        case measure => omega
        case rel =>
          refine ⟨k + 1, _, by omega, by simp, rfl, ?_, X.out⟩
          rw [HBk.out, ← HS.out, pfx_succ _ k x h0k HX.out, show (⟨#[32]⟩ : ByteArray) = ⟨([32] : List UInt8).toArray⟩ from rfl, bytes_app, bytes_app]
      · obtain rfl : k = 0 := by omega
        have e1 : decide ((0 : Int) < ((0 : Nat) : Int)) = false := decide_eq_false (by omega)
        go_wp2_with (go_at_call 57; ((with_reducible refine (HTx.out _).mono ?_); rintro e w4 ⟨rfl, hw4⟩); subst hw4)
        have hk' := HK.out
        go_roundg (g0 - 1)
        case measure => omega
        case rel =>
          refine ⟨1, _, by omega, by simp, rfl, ?_, X.out⟩
          rw [HBk.out, ← HS.out, pfx_one _ x HX.out, show pfx (flatL m C) 0 = [] from rfl, bytes_app, List.nil_append]
    · have d1 : decide ((k : Int) < ((m * m : Nat) : Int)) = false := decide_eq_false (by omega)
      have d2 : decide ((k : Int) < (m : Int) * (m : Int)) = false := by rw [← Int.natCast_mul]; exact d1
      have hke : k = m * m := by have := HK.out; omega
      have e3 : pfx (flatL m C) (m * m) = textZ m (some C) := by
        unfold pfx textZ
        rw [List.take_of_length_le (by have := HL.out; omega)]
      rw [hke, e3] at hb
      obtain ⟨l, hl⟩ : ∃ l, textZ m (some C) = l := ⟨_, rfl⟩
      have HL2 := Lib.hid hl
      rw [hl] at hb
      subst hb
      clear hl e3 HBk
      go_wp2_with fail
      go_ret
      exact ⟨by rw [HL2.out]; rfl, X.out.low⟩
/-- Any right zone. -/
theorem rztext_any {w : World} {m c base : Nat} {R : Option Mat} {A : Option Addr} (h0 : 0 < m) (h7 : m ≤ 7) (hz : ZRes w base m R (zoneV ((m : Int) - 1) A (rlen m R) c)) :
    Calls Tryd.prog 18 #[zoneV ((m : Int) - 1) A (rlen m R) c] w (RetTx (textZ m R) w) := by
  cases R with
  | none =>
    go_enter Tryd.func18, Tryd.ntmps18
    go_wp2_with fail
    go_ret
    exact ⟨rfl, (Below.refl _ w).alloc (Nat.le_refl _) _⟩
  | some C =>
    obtain ⟨g, rfl, hp, hC⟩ := rp_of hz
    exact rztext_pts h0 h7 hC hp
end Go.Proofs.YtimckaphmfidhaaDoor
