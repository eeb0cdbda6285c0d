/- The contract of 'nodes': an arena has the document's nodes. -/
import Derived.Test.YtlddelnbjihhgaaDoorNRefAny
import Derived.Test.YtlddelnbjihhgaaDoorCBase
import Derived.Test.YtlddelnbjihhgaaDoorSMove
import Derived.Deep.LoopGhost
namespace Go.Proofs.YtlddelnbjihhgaaDoor
open Go.RowKit
attribute [local go_sem ↓] Go.wp_at_zero Go.wp_at_succ

theorem sameN_self (a b c : Int) : sameN a b c a b c = true := by unfold sameN; simp
theorem ne_nil0 (b : Nat) (w : World) : (binOp .eql 43 (.pointer (some ⟨b, 0, none⟩)) (.pointer none)).run Tryd.prog w = .ok (.bool false) w := by kernel_rfl
section
variable {W W1 : World} {own : Nat → Prop} {p lim : Nat} {L : List Nd} {A : Option Addr} {c : Nat}
/-- While they are compared: both, and the box of the document's arena. -/
structure NS (w : World) (own : Nat → Prop) (p lim : Nat) (L : List Nd) (A : Option Addr) (c : Nat) (W : World) : Prop where
  a : Arena W own p lim L
  r : RefA W A c L
  low : Below w.heap.size w W
theorem NS.below {w : World} (h : NS w own p lim L A c W) (hb : Below W.heap.size W W1) : NS w own p lim L A c W1 := ⟨h.a.below hb, h.r.below hb, h.low.trans (hb.mono h.low.size)⟩
attribute [local go_sem ↓] neR eqgR in
set_option maxRecDepth 100000 in
set_option maxHeartbeats 3200000 in
theorem nodes_any (hA : Arena W own p lim L) (hr : RefA W A c L) (l : Nat) : Calls Tryd.prog 30 #[.pointer (some ⟨p, 0, none⟩), .agg #[.int .i64 l, .slice A L.length c]] W fun e w' => e = .returned (.bool true) ∧ Below W.heap.size W w' := by
  have ne := ne_nil0
  have hfew := hr.2
  have hcap := hr.cap
  have hb := (Below.refl W.heap.size W).alloc (Nat.le_refl _) (.cells #[.int .i64 l, .slice A L.length c] 46)
  have HS := Lib.hid (NS.below ⟨hA, hr, Below.refl _ _⟩ hb)
  have HX := Lib.hid (Blk.new W 46 #[.int .i64 l, .slice A L.length c])
  obtain ⟨N, hN⟩ : ∃ N, L.length = N := ⟨_, rfl⟩
  have HN := Lib.hid hN
  rw [hN] at HS HX hfew hcap ⊢
  clear hA hr hb hN
  go_enter Tryd.func30, Tryd.ntmps30
  go_wp2_with fail
  obtain ⟨V, hV⟩ : ∃ V, W.alloc (.cells #[.int .i64 l, .slice A N c] 46) = V := ⟨_, rfl⟩
  obtain ⟨bx, hbx⟩ : ∃ bx, W.heap.size = bx := ⟨_, rfl⟩
  rw [hV] at HS HX ⊢
  rw [hbx] at HX ⊢
  clear hV hbx
  have HSd := Lib.hid (HS.out.below (Below.refl _ _).drew)
  have HXd := Lib.hid (HX.out.below (Below.refl V.heap.size V).drew HX.out.lt)
  have HL := Lib.hid (arena_len (HSd.out.a))
  rw [HN.out] at HL
  have K0 : Hid (V.drew.cell? ⟨bx, 1, none⟩ = some (.slice A N c)) := Lib.hid (HXd.out.cell 1)
  clear HS HX
  go_region_held3 (fun w => w.cell? ⟨bx, 1, none⟩ = some (.slice A N c))
    (first | (with_reducible exact K0.out))
    (first
      | (go_at_call 67; ((with_reducible refine HL.out.mono ?_); rintro e w9 ⟨rfl, rfl⟩)))
  have k0 := K0.out
  go_wp2_with fail
  clear HL HXd k0 K0
  go_loopg [22] N (fun gk t22 wr => ∃ i : Nat, i + gk = N ∧ t22 = .int .i64 (i : Int) ∧ NS W own p lim L A c wr)
  case atStart => exact ⟨0, by omega, rfl, HSd.out⟩
  case round =>
    clear HSd
    rename Nat => g0
    obtain ⟨i, hi, rfl, hS⟩ := hrel
    have HS := Lib.hid hS
    have HI := Lib.hid hi
    clear hi
    by_cases him : i < N
    · obtain ⟨x1, x2, x3, hx⟩ : ∃ x1 x2 x3, L[i]? = some (x1, x2, x3) := ⟨_, _, _, List.getElem?_eq_getElem (by have := HN.out; omega)⟩
      obtain ⟨g, hAg, hg, k0, k1, k2⟩ := hS.r.node hx
      have hbn := (Below.refl wr.heap.size wr).alloc (Nat.le_refl _) (.cells #[.int .i64 x1, .int .i64 x2, .int .i64 x3] 105)
      have HS1 := Lib.hid (hS.below hbn)
      have HX1 := Lib.hid (Blk.new wr 105 #[.int .i64 x1, .int .i64 x2, .int .i64 x3])
      have HG := Lib.hid (arena_get HS1.out.a hx)
      have hs := sameN_self x1 x2 x3
      subst hAg
      clear hx hS hbn
      go_wp2_with (first
        | (go_at_call 72; ((with_reducible refine HG.out.mono ?_); rintro e w3 ⟨rfl, hb3⟩); have H3 := Lib.hid ((HS1.out.below hb3).below ((Below.refl _ _).alloc (Nat.le_refl _) (.cells #[.int .i64 x1, .int .i64 x2, .int .i64 x3] 106))); have X3 := HX1.out.below hb3 HX1.out.lt; have q0 : w3.cell? ⟨wr.heap.size, 0, none⟩ = some (.int .i64 x1) := X3.cell 0; have q1 : w3.cell? ⟨wr.heap.size, 1, none⟩ = some (.int .i64 x2) := X3.cell 1; have q2 : w3.cell? ⟨wr.heap.size, 2, none⟩ = some (.int .i64 x3) := X3.cell 2; have q3 := X3.lt; clear hb3 X3))
      have hi := HI.out
      go_roundg (g0 - 1)
      case measure => omega
      case rel => exact ⟨i + 1, by omega, by simp, H3.out⟩
    · have hie : N = i := by have := HI.out; omega
      subst hie
      clear hS
      go_wp2_with fail
      go_ret
      exact ⟨rfl, HS.out.low⟩
end
end Go.Proofs.YtlddelnbjihhgaaDoor
