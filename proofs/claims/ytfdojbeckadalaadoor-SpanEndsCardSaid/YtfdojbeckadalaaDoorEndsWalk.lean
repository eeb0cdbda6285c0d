/- The walk of SpanEnds: it returns true at any slice of spans, and any steps. -/
import Derived.Test.YtfdojbeckadalaaDoorAlive
import Derived.Test.YtfdojbeckadalaaDoorEndsNums
namespace Go.Proofs.YtfdojbeckadalaaDoor
open Go.RowKit
attribute [local go_sem ↓] Go.wp_at_zero Go.wp_at_succ eq24 eq23 neq24 eqg24 eqg23

/-- A slice of n spans, from p k to q k, that lies in memory. -/
def Pairs (w : World) (A : Option Addr) (n : Nat) (p q : Nat → Int) : Prop :=
  0 < n → ∃ b off : Nat, A = some ⟨b, off, none⟩ ∧ b < w.heap.size ∧ ∀ j, j < n → w.cell? ⟨b, off + j * 2, none⟩ = some (.int .i64 (p j)) ∧ w.cell? ⟨b, off + j * 2 + 1, none⟩ = some (.int .i64 (q j))
theorem Pairs.below {w w' : World} {A : Option Addr} {n : Nat} {p q : Nat → Int} (h : Pairs w A n p q) (hb : Below w.heap.size w w') : Pairs w' A n p q := fun hn => by
  obtain ⟨b, off, e, hlt, hc⟩ := h hn
  exact ⟨b, off, e, by have := hb.size; omega, fun j hj => ⟨by rw [(bcell hb).1 _ _ hlt]; exact (hc j hj).1, by rw [(bcell hb).1 _ _ hlt]; exact (hc j hj).2⟩⟩

set_option maxHeartbeats 1600000 in
theorem ends_long (A B : Option Addr) (n cn m cm : Nat) (w : World) (hn : n ≤ 9223372036854775807) (hm : m ≤ 9223372036854775807) (h : 100 < n ∨ (n ≤ 100 ∧ 20 < m)) : Calls Tryd.prog 9 #[.slice A n cn, .slice B m cm] w (RetTrue w) := by
  rcases h with h | ⟨h, h'⟩
  · have k1 : decide ((100 : Int) < (n : Int)) = true := decide_eq_true (by omega)
    go_enter Tryd.func9, Tryd.ntmps9
    go_wp2_with (first | (go_at_call 11; ((with_reducible refine (alive_any _).mono ?_); rintro e w1 ⟨rfl, hb1⟩)))
    go_ret
    exact ⟨rfl, hb1⟩
  · have k1 : decide ((100 : Int) < (n : Int)) = false := decide_eq_false (by omega)
    have k2 : decide ((20 : Int) < (m : Int)) = true := decide_eq_true (by omega)
    go_enter Tryd.func9, Tryd.ntmps9
    go_wp2_with (first | (go_at_call 11; ((with_reducible refine (alive_any _).mono ?_); rintro e w1 ⟨rfl, hb1⟩)))
    go_ret
    exact ⟨rfl, hb1⟩

/-- What holds at a round's head: g is the block of what is widened. -/
def EndsRel (w : World) (f : Nat → Int) (m n g : Nat) (t i : Value) (wr : World) : Prop :=
  ∃ (k c : Nat) (l h : Int), k ≤ n ∧ i = .int .i64 k ∧ t = .int .i64 c ∧ Box wr g l h ∧ rightS l h = true ∧ c + left f m l h ≤ 2 * m + 3 ∧ Below w.heap.size w wr

theorem box_alloc {w : World} {b : Nat} {l h : Int} (x : Box w b l h) (o : Obj) : Box (w.alloc o) b l h := x.below ((Below.refl _ _).alloc (Nat.le_refl _) o)
theorem box_set {w : World} {b : Nat} {l h : Int} (x : Box w b l h) (l' h' : Int) : Box ((w.setCell ⟨b, 0, none⟩ (.int .i64 l')).setCell ⟨b, 1, none⟩ (.int .i64 h')) b l' h' := by
  obtain ⟨h1, h2, h3, h4, h5⟩ := x
  refine ⟨?_, ?_, ?_, ?_, ?_⟩ <;> go_simp

theorem ends_below {w w3 : World} {g : Nat} (h : Below w.heap.size w w3) (hg : w.heap.size ≤ g) (u v : Value) (o : Obj) : Below w.heap.size w (((w3.setCell ⟨g, 0, none⟩ u).setCell ⟨g, 1, none⟩ v).alloc o) :=
  ((h.setCell hg u).setCell hg v).alloc ((h.setCell hg u).setCell hg v).size o

set_option maxHeartbeats 3200000 in
theorem ends_short (f p q : Nat → Int) (A B : Option Addr) (n cn m cm : Nat) (w : World) (hn : n ≤ 100) (hm : m ≤ 20) (hP : Pairs w A n p q) (hI : Ints w B m f) : Calls Tryd.prog 9 #[.slice A n cn, .slice B m cm] w (RetTrue w) := by
  have k1 : decide ((100 : Int) < (n : Int)) = false := decide_eq_false (by omega)
  have k2 : decide ((20 : Int) < (m : Int)) = false := decide_eq_false (by omega)
  have HP := Lib.hid hP
  have HI := Lib.hid hI
  clear hP hI
  go_enter Tryd.func9, Tryd.ntmps9
  go_wp2_with (first | (go_at_call 29; ((with_reducible refine (empty_any _).mono ?_); rintro e w1 ⟨rfl, hb1⟩); have HB1 := Lib.hid hb1; clear hb1))
  have hg : w.heap.size ≤ w1.heap.size := HB1.out.size
  go_loopw [6, 22] (fun t i wr => EndsRel w f m n w1.heap.size t i wr) (fun _ i _ => n - (intOf i).toNat)
  case atStart => exact ⟨0, 0, 1, 0, Nat.zero_le _, rfl, rfl, box_new w1 24 1 0, (rightS_iff 1 0).2 (Or.inl ⟨rfl, rfl⟩), by have := left_le f m 1 0; omega, below_trans HB1.out ((Below.refl _ _).alloc (Nat.le_refl _) _)⟩
  case round =>
    obtain ⟨k, c, l, h, hk, rfl, rfl, hbox, hr, hleft, hnx⟩ := hrel
    have HN := Lib.hid hnx
    have HX := Lib.hid hbox
    have HR := Lib.hid hr
    have hl3 := left_le f m l h
    obtain ⟨z0, p0, p1, f0, f1⟩ := hbox
    clear hnx hr
    by_cases hlt : k < n
    · obtain ⟨b', off, rfl, hbl, hcells⟩ := (HP.out.below HN.out) (by omega)
      obtain ⟨c0, c1⟩ := hcells k hlt
      clear hcells
      have HS := Lib.hid (wid_step f m l h (p k) (q k) HR.out)
      have HJ := Lib.hid (show Ints (wr.alloc (.cells #[.int .i64 (p k), .int .i64 (q k)] 23)) B m f from HI.out.below (below_trans HN.out ((Below.refl _ _).alloc (Nat.le_refl _) _)))
      cases hs : sameB (widL f m l h (p k) (q k)) (widH f m l h (p k) (q k)) l h
      all_goals
        go_wp2_with (first
          | (go_at_call 30; ((with_reducible refine (widen_any f l h (p k) (q k) B m cm _ (by omega) HJ.out).mono ?_); rintro e w3 ⟨rfl, hb3⟩); have HX3 := Lib.hid ((box_alloc HX.out (.cells #[.int .i64 (p k), .int .i64 (q k)] 23)).below hb3); have HN3 := Lib.hid (below_trans (below_trans HN.out ((Below.refl _ _).alloc (Nat.le_refl _) _)) hb3); clear hb3 z0 p0 p1 f0 f1; obtain ⟨z0, p0, p1, f0, f1⟩ := HX3.out))
      · go_roundw
        case rel =>
          refine ⟨k + 1, c + 1, _, _, by omega, by go_num, by go_num, box_alloc (box_set HX3.out _ _) _, HS.out.1, ?_, ends_below HN3.out hg _ _ _⟩
          rcases HS.out.2 with x | x
          · rw [hs] at x; cases x
          · omega
        case measure => simp [intOf]; omega
      · go_roundw
        case rel =>
          refine ⟨k + 1, c, _, _, by omega, by go_num, rfl, box_alloc (box_set HX3.out _ _) _, HS.out.1, ?_, ends_below HN3.out hg _ _ _⟩
          obtain ⟨x, y⟩ := (sameB_iff _ _ _ _).1 hs
          rw [x, y]
          exact hleft
        case measure => simp [intOf]; omega
    · obtain rfl : k = n := by omega
      have hc : (c : Int) ≤ 2 * (m : Int) + 4 := by omega
      go_wp2_with (first | (go_at_call 11; ((with_reducible refine (alive_any _).mono ?_); rintro e w5 ⟨rfl, hb5⟩)))
      go_ret
      exact ⟨rfl, below_trans HN.out hb5⟩

theorem ends_walk (p q : Nat → Int) (A : Option Addr) (n cn : Nat) (f : Nat → Int) (B : Option Addr) (m cm : Nat) (w : World) (hn : n ≤ 9223372036854775807) (_ : n ≤ cn) (hP : Pairs w A n p q) (hm : m ≤ 9223372036854775807) (_ : m ≤ cm) (hI : Ints w B m f) :
    Calls Tryd.prog 9 #[.slice A n cn, .slice B m cm] w (RetTrue w) := by
  by_cases h : 100 < n
  · exact ends_long A B n cn m cm w hn hm (Or.inl h)
  · by_cases h' : 20 < m
    · exact ends_long A B n cn m cm w hn hm (Or.inr ⟨by omega, h'⟩)
    · exact ends_short f p q A B n cn m cm w (by omega) (by omega) hP hI
end Go.Proofs.YtfdojbeckadalaaDoor
