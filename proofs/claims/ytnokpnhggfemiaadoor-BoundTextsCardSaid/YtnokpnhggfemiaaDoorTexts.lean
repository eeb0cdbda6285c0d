/- The contracts of Text and Parse, at any arguments. -/
import Derived.Test.YtnokpnhggfemiaaDoorCalc
import Derived.Test.YtnokpnhggfemiaaDoorShelf
import Derived.Lib.SmallJoins
import Derived.Lib.AppendIntMem
import Derived.Lib.AtoiErrMem
namespace Go.Proofs.YtnokpnhggfemiaaDoor
open Go.RowKit

/-- What the library's table and errors hold. -/
def Tabs (w : World) : Prop :=
  Lib.TabIs Tryd.prog w "internal/strconv.uint64pow10" .u64 Lib.pow10Tab ∧ (∃ (tp : TypeId) (p : Value), w.var? Tryd.prog "strconv.ErrSyntax" = some #[.iface tp p]) ∧ ∃ (tq : TypeId) (q : Value), w.var? Tryd.prog "strconv.ErrRange" = some #[.iface tq q]

theorem gPow : Tryd.prog.globalNamed "internal/strconv.uint64pow10" = some 2 := by kernel_rfl
theorem gSyn : Tryd.prog.globalNamed "strconv.ErrSyntax" = some 0 := by kernel_rfl
theorem gRan : Tryd.prog.globalNamed "strconv.ErrRange" = some 1 := by kernel_rfl

theorem Tabs.stays {w w' : World} (h : Tabs w) (hb : Below w.heap.size w w') : Tabs w' := by
  obtain ⟨h1, ⟨tp, p, h2⟩, tq, q, h3⟩ := h
  exact ⟨Joins.tab_stays gPow h1 hb (Nat.le_refl _), ⟨tp, p, Joins.var_stays gSyn h2 hb (Nat.le_refl _)⟩, tq, q, Joins.var_stays gRan h3 hb (Nat.le_refl _)⟩

def noneL : List UInt8 := [110, 111, 110, 101]

/-- A bound's signs. -/
def textL (b : Int) : List UInt8 := if nearZ b = 4611686018427387904 then noneL else Lib.itoa (nearZ b)

/-- A string is handed back; what was there is as it was. -/
def RetStr (l : List UInt8) (w : World) (e : Ending) (w' : World) : Prop := e = .returned (.string ⟨l.toArray⟩) ∧ Below w.heap.size w w'

set_option maxHeartbeats 400000 in
theorem text_any (b : Int) (w : World) (ht : Tabs w) : Calls Tryd.prog 22 #[.int .i64 b] w (RetStr (textL b) w) := by
  by_cases h : nearZ b = 4611686018427387904
  · rw [show textL b = noneL from if_pos h]
    have h' : (nearZ b == 4611686018427387904) = true := by simpa using h
    clear h ht
    go_enter Tryd.func22, Tryd.ntmps22
    go_wp2_with (go_at_call 17; refine (near_any _ _).mono ?_; rintro e w' ⟨rfl, rfl⟩)
    go_ret
    exact ⟨rfl, Below.refl _ _⟩
  · rw [show textL b = Lib.itoa (nearZ b) from if_neg h]
    have h' : (nearZ b == 4611686018427387904) = false := by simpa using h
    have hI := Tryd.strconv_Itoa (nearZ b) (by have := nearZ_bd b; omega) (by have := nearZ_bd b; omega) w ht.1
    have H := Lib.hid hI
    clear h ht hI
    go_enter Tryd.func22, Tryd.ntmps22
    go_wp2_with (first | (go_at_call 17; refine (near_any _ _).mono ?_; rintro e w' ⟨rfl, rfl⟩) | (go_at_call 33; refine H.out.mono ?_; rintro e w' ⟨rfl, k, os, rfl⟩))
    go_ret
    exact ⟨rfl, Lib.below_grow _ _ (Nat.le_refl _) _ _⟩

/-- A number and an error are handed back; what was there is as it was. -/
def RetNum (n k : Int) (w : World) (e : Ending) (w' : World) : Prop := e = calcRet n k ∧ Below w.heap.size w w'

set_option maxHeartbeats 400000 in
theorem parse_none (w : World) : Calls Tryd.prog 23 #[.string ⟨#[110, 111, 110, 101]⟩] w (RetNum 4611686018427387904 0 w) := by
  go_enter Tryd.func23, Tryd.ntmps23
  go_wp2
  go_ret2
  exact ⟨rfl, Below.refl _ _⟩

set_option maxHeartbeats 400000 in
theorem parse_bad (s : ByteArray) (w : World) (ht : Tabs w) (hs : (s.toList == [110, 111, 110, 101]) = false) (hlim : s.size ≤ 281474976710656) (h : ∀ v, Lib.atoiAll s.data.toList ≠ .ok v) :
    Calls Tryd.prog 23 #[.string s] w (RetNum 0 1 w) := by
  obtain ⟨_, ⟨tp, p, h1⟩, tq, q, h2⟩ := ht
  have H := Lib.hid (Tryd.strconv_Atoi_bad s hlim h tp tq p q w h1 h2)
  clear h h1 h2
  go_enter Tryd.func23, Tryd.ntmps23
  go_wp2_with (go_at_call 34; refine H.out.mono ?_; rintro e w' ⟨n, N, rfl, hb⟩)
  go_ret2
  exact ⟨rfl, hb⟩

theorem atoi_ok (s : ByteArray) (hmax : s.size ≤ 281474976710656) (v : Int) (h : Lib.atoiAll s.data.toList = .ok v) (w : World) :
    Calls Tryd.prog 34 #[.string s] w fun e w' => e = .returned (.tuple #[.int .i64 v, .nilIface]) ∧ Below w.heap.size w w' :=
  (Tryd.strconv_Atoi_ok s (by omega) v h w).mono fun e w' ⟨he, hb⟩ => ⟨he, by
    rcases hb with rfl | ⟨t, rfl⟩
    · exact Below.refl _ _
    · exact Lib.bytesWorld_below w 5 t⟩

theorem below_trans {w w1 w2 : World} (h1 : Below w.heap.size w w1) (h2 : Below w1.heap.size w1 w2) : Below w.heap.size w w2 := h1.trans (h2.mono h1.size)

set_option maxHeartbeats 400000 in
theorem parse_off (s : ByteArray) (v : Int) (w : World) (ht : Tabs w) (hs : (s.toList == [110, 111, 110, 101]) = false) (hlim : s.size ≤ 281474976710656) (h : Lib.atoiAll s.data.toList = .ok v) (hv : (textL v == s.toList) = false) :
    Calls Tryd.prog 23 #[.string s] w (RetNum 0 1 w) := by
  have H := Lib.hid (atoi_ok s hlim v h w)
  clear h
  have Ht := Lib.hid ht
  clear ht
  go_enter Tryd.func23, Tryd.ntmps23
  go_wp2_with (first | (go_at_call 34; refine H.out.mono ?_; rintro e w1 ⟨rfl, hb1⟩) | (go_at_call 22; refine (text_any _ _ (Ht.out.stays (by assumption))).mono ?_; rintro e w2 ⟨rfl, hb2⟩))
  go_ret2
  exact ⟨rfl, below_trans (by assumption) (by assumption)⟩

set_option maxHeartbeats 400000 in
theorem parse_ok (s : ByteArray) (v : Int) (w : World) (ht : Tabs w) (hs : (s.toList == [110, 111, 110, 101]) = false) (hlim : s.size ≤ 281474976710656) (h : Lib.atoiAll s.data.toList = .ok v) (hv : (textL v == s.toList) = true) :
    Calls Tryd.prog 23 #[.string s] w (RetNum v 0 w) := by
  have H := Lib.hid (atoi_ok s hlim v h w)
  clear h
  have Ht := Lib.hid ht
  clear ht
  go_enter Tryd.func23, Tryd.ntmps23
  go_wp2_with (first | (go_at_call 34; refine H.out.mono ?_; rintro e w1 ⟨rfl, hb1⟩) | (go_at_call 22; refine (text_any _ _ (Ht.out.stays (by assumption))).mono ?_; rintro e w2 ⟨rfl, hb2⟩))
  go_ret2
  exact ⟨rfl, below_trans (by assumption) (by assumption)⟩

/-- Some numbers: alive, in any world in which the library's table lies. -/
def RetTrue (w : World) (e : Ending) (w' : World) : Prop := e = .returned (.bool true) ∧ Below w.heap.size w w'

theorem itoa_12 : textL (-12) = [45, 49, 50] := by decide +kernel
theorem atoi_12 : Lib.atoiAll [45, 49, 50] = .ok (-12) := by decide +kernel
end Go.Proofs.YtnokpnhggfemiaaDoor
