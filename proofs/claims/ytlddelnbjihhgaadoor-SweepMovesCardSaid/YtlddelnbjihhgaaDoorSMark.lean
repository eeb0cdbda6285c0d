/- The contracts of mark, Mark and Dead: which nodes are needed, and how many are not. -/
import Derived.Test.YtlddelnbjihhgaaDoorCBase
import Derived.Test.YtlddelnbjihhgaaDoorSMathC
import Derived.Laws.MakeOwn
import Derived.Deep.LoopGhost
namespace Go.Proofs.YtlddelnbjihhgaaDoor
open Go.RowKit
attribute [local go_sem ↓] Go.wp_at_zero Go.wp_at_succ

/-- A row of ints that an argument names. -/
def Ints (W : World) (A : Option Addr) (m : Nat) (f : Nat → Int) : Prop := 0 < m → ∃ b off, A = some ⟨b, off, none⟩ ∧ b < W.heap.size ∧ ∀ j, j < m → W.cell? ⟨b, off + j, none⟩ = some (.int .i64 (f j))
theorem Ints.below {W W1 : World} {A : Option Addr} {m : Nat} {f : Nat → Int} (h : Ints W A m f) (hb : Below W.heap.size W W1) : Ints W1 A m f := fun hm => by
  obtain ⟨b, off, rfl, hlt, hc⟩ := h hm
  exact ⟨b, off, rfl, Nat.lt_of_lt_of_le hlt hb.size, fun j hj => (hb.cell (p := ⟨b, _, none⟩) hlt).trans (hc j hj)⟩
theorem Ints.at_ {W : World} {A : Option Addr} {m i : Nat} {f : Nat → Int} (h : Ints W A m f) (hi : i < m) : ∃ (b off : Nat) (x : Int), A = some ⟨b, off, none⟩ ∧ b < W.heap.size ∧ f i = x ∧ W.cell? ⟨b, off + i, none⟩ = some (.int .i64 x) := by
  obtain ⟨b, off, hA, hlt, hc⟩ := h (by omega)
  exact ⟨b, off, _, hA, hlt, rfl, hc i hi⟩
theorem Ints.low {W W1 : World} {B : Nat} {A : Option Addr} {m : Nat} {f : Nat → Int} (h : Ints W A m f) (hB : W.heap.size ≤ B) (hb : Below B W W1) : Ints W1 A m f := h.below (hb.mono hB)

/-- The cells of a row of bools. -/
def boolsA (n : Nat) (B : Nat → Bool) : Array Value := ((List.range n).map fun k => Value.bool (B k)).toArray
theorem boolsA_at {n k : Nat} (B : Nat → Bool) (h : k < n) : (boolsA n B)[k]? = some (.bool (B k)) := by
  unfold boolsA
  rw [List.getElem?_toArray, List.getElem?_map, List.getElem?_range h]
  rfl
theorem boolsA_size (n : Nat) (B : Nat → Bool) : (boolsA n B).size = n := by unfold boolsA; simp
theorem boolsA_same {n : Nat} {B C : Nat → Bool} (h : ∀ k, k < n → B k = C k) : boolsA n B = boolsA n C := by
  unfold boolsA
  congr 1
  exact List.map_congr_left fun k hk => by rw [h k (List.mem_range.1 hk)]
theorem boolsA_mark {n k : Nat} (B : Nat → Bool) (h : k < n) : (boolsA n B).setIfInBounds k (.bool true) = boolsA n (mark1 B (k : Int)) := by
  apply Array.ext_getElem?
  intro i
  rw [Array.getElem?_setIfInBounds]
  by_cases hi : i < n
  · rw [boolsA_at _ hi, boolsA_at _ hi]
    by_cases e : k = i
    · subst e
      rw [if_pos rfl, if_pos (by rw [boolsA_size]; exact h)]
      unfold mark1
      simp
    · rw [if_neg e]
      unfold mark1
      rw [decide_eq_false (by omega)]
      simp
  · have e1 : (boolsA n (mark1 B (k : Int)))[i]? = none := Array.getElem?_eq_none (by rw [boolsA_size]; omega)
    have e2 : (boolsA n B)[i]? = none := Array.getElem?_eq_none (by rw [boolsA_size]; omega)
    rw [e1, e2, if_neg (by omega)]
theorem boolsA_out {n : Nat} (B : Nat → Bool) {r : Int} (h : ¬ (0 ≤ r ∧ r < (n : Int))) : boolsA n (mark1 B r) = boolsA n B := boolsA_same fun k hk => by
  unfold mark1
  rw [decide_eq_false (by omega)]
  simp
def RetMk1 (g n : Nat) (B : Nat → Bool) (w : World) (e : Ending) (w' : World) : Prop := (∃ v, e = .returned v) ∧ Blk w' g 4 (boolsA n B) ∧ Only (fun i => i = g) w w'
section
variable {W : World} {g n : Nat} {B : Nat → Bool}
theorem mark_any (h : Blk W g 4 (boolsA n B)) (r : Int) : Calls Tryd.prog 105 #[.slice (some ⟨g, 0, none⟩) n n, .int .i64 r] W (RetMk1 g n (mark1 B r) W) := by
  by_cases hr : 0 ≤ r ∧ r < (n : Int)
  · obtain ⟨k, rfl⟩ : ∃ k : Nat, r = (k : Int) := ⟨r.toNat, by omega⟩
    have hk : k < n := by omega
    have c0 : W.cell? ⟨g, k, none⟩ = some (.bool (B k)) := (h.cell k).trans (boolsA_at B hk)
    have f0 := h.frozen k
    have hlt := h.lt
    have HS : Hid (Blk (W.setCell ⟨g, k, none⟩ (.bool true)) g 4 (boolsA n (mark1 B (k : Int)))) := Lib.hid (by rw [← boolsA_mark B hk]; exact h.set_ k _)
    have HO : Hid (Only (fun i => i = g) W (W.setCell ⟨g, k, none⟩ (.bool true))) := Lib.hid (Only.of_grown (grown_set W ⟨g, k, none⟩ _) (own := fun i => i = g) fun r e => by simpa using e.symm)
    have d1 : decide ((k : Int) < (n : Int)) = true := decide_eq_true (by omega)
    clear h hr
    go_enter Tryd.func105, Tryd.ntmps105
    go_wp2_with fail
    go_end0
    exact ⟨⟨_, rfl⟩, HS.out, HO.out⟩
  · have HB := Lib.hid (show Blk W g 4 (boolsA n (mark1 B r)) by rw [boolsA_out B hr]; exact h)
    clear h
    by_cases h0 : 0 ≤ r
    · have d0 : decide (0 ≤ r) = true := decide_eq_true h0
      have d1 : decide (r < (n : Int)) = false := decide_eq_false (by omega)
      clear hr
      go_enter Tryd.func105, Tryd.ntmps105
      go_wp2_with fail
      go_end0
      exact ⟨⟨_, rfl⟩, HB.out, Only.refl _ _⟩
    · have d0 : decide (0 ≤ r) = false := decide_eq_false h0
      clear hr
      go_enter Tryd.func105, Tryd.ntmps105
      go_wp2_with fail
      go_end0
      exact ⟨⟨_, rfl⟩, HB.out, Only.refl _ _⟩
end
theorem made_bools (n : Nat) (hn : n ≤ 4000) : ∀ w, (Instr.makeSlice 87 (.int .i64 (n : Int)) (.int .i64 (n : Int))).run Tryd.prog w = .ok (.slice (some ⟨w.heap.size, 0, none⟩) n n) (w.alloc (.cells (boolsA n fun _ => false) 4)) := by
  have hinfo : (Tryd.prog.info? 4).map (fun i => (i.zero, i.size, i.bytes)) = some (some (.bool false), 1, 1) := by kernel_rfl
  obtain ⟨i0, hi, hz0, hz1, hz2⟩ := info_parts hinfo
  have hcs : madeCells #[.bool false] (n * 1) = boolsA n fun _ => false := by
    unfold madeCells boolsA
    apply Array.ext
    · simp
    · intro i h1 h2
      simp [Nat.mod_one]
  intro w
  have := run_makeSlice (P := Tryd.prog) w 87 4 i0 (.bool false) Tryd.underlying87 hi hz0 .i64 .i64 (n : Int) (n : Int) (by omega) (Int.le_refl _) (by rw [hz1]; omega) (by rw [hz2]; omega) (by omega)
  rw [hz1] at this
  rw [← hcs]
  simpa [Value.cells] using this
/-- While it is marked: the arena, the roots, and the row, new. -/
structure Mks (w : World) (own : Nat → Prop) (p lim : Nat) (L : List Nd) (g : Nat) (B : Nat → Bool) (W : World) : Prop where
  arena : Arena W own p lim L
  row : Blk W g 4 (boolsA L.length B)
  low : Below w.heap.size w W
  new : w.heap.size ≤ g
  far : ¬ own g
section
variable {w W W1 : World} {own : Nat → Prop} {p lim g : Nat} {L : List Nd} {B C : Nat → Bool}
theorem Mks.below (h : Mks w own p lim L g B W) (hb : Below W.heap.size W W1) : Mks w own p lim L g B W1 :=
  ⟨h.arena.below hb, h.row.below hb h.row.lt, h.low.trans (hb.mono h.low.size), h.new, h.far⟩
theorem Mks.next (h : Mks w own p lim L g B W) (hr : Blk W1 g 4 (boolsA L.length C)) (ho : Only (fun i => i = g) W W1) : Mks w own p lim L g C W1 :=
  ⟨h.arena.only ho fun _ hi e => h.far (e ▸ hi), hr, h.low.trans (ho.below h.low.size fun _ hi => hi ▸ h.new), h.new, h.far⟩
theorem mks_mark (h : Mks w own p lim L g B W) (r : Int) : Calls Tryd.prog 105 #[.slice (some ⟨g, 0, none⟩) L.length L.length, .int .i64 r] W fun e w' => (∃ v, e = .returned v) ∧ Mks w own p lim L g (mark1 B r) w' :=
  (mark_any h.row r).mono fun _ _ ⟨h1, h2, h3⟩ => ⟨h1, h.next h2 h3⟩
/-- The node that was read stays, while its children are marked. -/
theorem mks_mark2 {nb : Nat} {cs : Array Value} (h : Mks w own p lim L g B W) (hn : Blk W nb 106 cs) (r : Int) : Calls Tryd.prog 105 #[.slice (some ⟨g, 0, none⟩) L.length L.length, .int .i64 r] W fun e w' => (∃ v, e = .returned v) ∧ Mks w own p lim L g (mark1 B r) w' ∧ Blk w' nb 106 cs :=
  (mark_any h.row r).mono fun _ _ ⟨h1, h2, h3⟩ => ⟨h1, h.next h2 h3, h3.blk hn (Blk.ne_ hn h.row (by decide))⟩
theorem mks_markN {N nb : Nat} {cs : Array Value} (hN : L.length = N) (h : Mks w own p lim L g B W) (hn : Blk W nb 106 cs) (r : Int) : Calls Tryd.prog 105 #[.slice (some ⟨g, 0, none⟩) N N, .int .i64 r] W fun e w' => (∃ v, e = .returned v) ∧ Mks w own p lim L g (mark1 B r) w' ∧ Blk w' nb 106 cs := by
  subst hN; exact mks_mark2 h hn r
def RetMarks (L : List Nd) (B : Nat → Bool) (w : World) (e : Ending) (w' : World) : Prop := ∃ g, e = .returned (.slice (some ⟨g, 0, none⟩) L.length L.length) ∧ Blk w' g 4 (boolsA L.length B) ∧ w.heap.size ≤ g ∧ Below w.heap.size w w'
set_option maxRecDepth 100000 in
set_option maxHeartbeats 3200000 in
theorem marks_any (hA : Arena w own p lim L) {A : Option Addr} {m c : Nat} {f : Nat → Int} (hI : Ints w A m f) (hm : m ≤ 9223372036854775807) : Calls Tryd.prog 66 #[.pointer (some ⟨p, 0, none⟩), .slice A m c] w (RetMarks L (marksB L f m) w) := by
  have HL := Lib.hid (arena_len hA)
  have hmk := made_bools L.length hA.few
  have hfew := hA.few
  have HI := Lib.hid hI
  have hb := (Below.refl w.heap.size w).alloc (Nat.le_refl _) (.cells (boolsA L.length fun _ => false) 4)
  have H0 := Lib.hid (show Mks w own p lim L w.heap.size (rootsB f 0) (w.alloc (.cells (boolsA L.length fun _ => false) 4)) from ⟨hA.below hb, Blk.new _ _ _, hb, Nat.le_refl _, fun h => by have := hA.old _ h; omega⟩)
  have HR := Lib.hid hA.right
  obtain ⟨N, hN⟩ : ∃ N, L.length = N := ⟨_, rfl⟩
  have HN := Lib.hid hN
  rw [hN] at HL hmk hfew
  obtain ⟨B0, hB0⟩ : ∃ B0, rootsB f m = B0 := ⟨_, rfl⟩
  have HB0 := Lib.hid hB0
  rw [show marksB L f m = downB L B0 N by rw [← hN, ← hB0]; rfl]
  clear hA hI hb hN hB0
  unfold RetMarks
  rw [HN.out]
  rw [HN.out] at H0
  go_enter Tryd.func66, Tryd.ntmps66
  go_wp2_with (first
    | (go_at_call 67; ((with_reducible refine HL.out.mono ?_); rintro e w1 ⟨rfl, rfl⟩)))
  obtain ⟨g, hg⟩ : ∃ g, w.heap.size = g := ⟨_, rfl⟩
  have HG : Hid (w.heap.size ≤ g) := Lib.hid (by omega)
  rw [hg] at H0 ⊢
  clear hg hmk
  go_loopg [17] m (fun gk t17 wr => ∃ i : Nat, i + gk = m ∧ t17 = .int .i64 (i : Int) ∧ Mks w own p lim L g (rootsB f i) wr)
  case atStart => exact ⟨0, by omega, rfl, H0.out⟩
  case round =>
    clear H0
    rename Nat => g0
    obtain ⟨i, hi, rfl, hM⟩ := hrel
    have HM := Lib.hid hM
    have HI2 := Lib.hid hi
    clear hM hi
    by_cases him : i < m
    · obtain ⟨b, off, x, hA, hblt, hf, k0⟩ := (HI.out.below HM.out.low).at_ him
      have HF := Lib.hid (show mark1 (rootsB f i) x = rootsB f (i + 1) by rw [← hf]; rfl)
      have HK := Lib.hid (mks_mark HM.out x)
      rw [HN.out] at HK
      subst hA
      clear hf
      go_wp2_with (first
        | (go_at_call 105; ((with_reducible refine HK.out.mono ?_); rintro e w2 ⟨⟨v, rfl⟩, h2⟩); have H2 := Lib.hid h2; clear h2))
      have hi := HI2.out
      go_roundg (g0 - 1)
      case measure => omega
      case rel => exact ⟨i + 1, by omega, by simp, by rw [← HF.out]; exact H2.out⟩
    · have hie : i = m := by have := HI2.out; omega
      subst hie
      rw [HB0.out] at HM
      have HL2 := Lib.hid (arena_len HM.out.arena)
      rw [HN.out] at HL2
      go_wp2_with (first
        | (go_at_call 67; ((with_reducible refine HL2.out.mono ?_); rintro e w1 ⟨rfl, rfl⟩)))
      clear HL2
      obtain ⟨wo, hwo⟩ : ∃ wo, wo = wr := ⟨_, rfl⟩
      subst hwo
      go_loopg [27] N (fun gk t27 wr => ∃ d : Nat, d + gk = N ∧ t27 = .int .i64 (d : Int) ∧ Mks w own p lim L g (downB L B0 d) wr)
      case atStart => exact ⟨0, by omega, rfl, HM.out⟩
      case round =>
        clear HM
        rename Nat => g1
        obtain ⟨d, hd, rfl, hM⟩ := hrel
        have HM := Lib.hid hM
        have HD := Lib.hid hd
        clear hM hd
        by_cases hdn : d < N
        · obtain ⟨k, hk⟩ : ∃ k, L.length - 1 - d = k := ⟨_, rfl⟩
          have hkl : k < L.length := by have := HN.out; omega
          obtain ⟨x1, x2, x3, hx⟩ : ∃ x1 x2 x3, L[k]? = some (x1, x2, x3) := ⟨_, _, _, List.getElem?_eq_getElem hkl⟩
          have hkN : k < N := by rw [← HN.out]; exact hkl
          have ek : (N : Int) - 1 - (d : Int) = (k : Int) := by have := HN.out; omega
          have HL3 := Lib.hid (arena_len HM.out.arena)
          rw [HN.out] at HL3
          have HG3 := Lib.hid (arena_get HM.out.arena hx)
          have hs := down_step (B := B0) hk hx
          have hlt := HM.out.row.lt
          cases hb : downB L B0 d k with
          | true =>
            rw [if_pos hb] at hs
            have HS := Lib.hid hs
            have hc : (boolsA L.length (downB L B0 d))[k]? = some (.bool true) := by rw [boolsA_at _ hkl, hb]
            have HC := Lib.hid hc
            clear hk hkl hx hs hb hc
            go_wp2_with (first
              | (go_at_call 67; ((with_reducible refine HL3.out.mono ?_); rintro e w1 ⟨rfl, rfl⟩))
              | (go_at_call 72; ((with_reducible refine HG3.out.mono ?_); rintro e w3 ⟨rfl, hb3⟩); have H3 := Lib.hid ((HM.out.below hb3).below ((Below.refl _ _).alloc (Nat.le_refl _) (.cells #[.int .i64 x1, .int .i64 x2, .int .i64 x3] 106))); have HB3 := Lib.hid (Blk.new w3 106 #[.int .i64 x1, .int .i64 x2, .int .i64 x3]); have hlt3 := (HM.out.below hb3).row.lt; have c3 : w3.cell? ⟨g, k, none⟩ = some (.bool true) := ((HM.out.below hb3).row.cell k).trans HC.out; clear hb3)
              | (go_at_call 105; ((with_reducible refine (mks_markN HN.out H4.out B4.out x3).mono ?_); rintro e w5 ⟨⟨v5, rfl⟩, h5, b5⟩); have H5 := Lib.hid h5; clear h5 b5)
              | (go_at_call 105; ((with_reducible refine (mks_markN HN.out H3.out HB3.out x2).mono ?_); rintro e w4 ⟨⟨v4, rfl⟩, h4, b4⟩); have H4 := Lib.hid h4; have B4 := Lib.hid b4; have q1 : w4.cell? ⟨w3.heap.size, 1, none⟩ = some (.int .i64 x2) := b4.cell 1; have q2 : w4.cell? ⟨w3.heap.size, 2, none⟩ = some (.int .i64 x3) := b4.cell 2; clear h4 b4))
            have hd := HD.out
            go_roundg (g1 - 1)
            case measure => omega
            case rel => exact ⟨d + 1, by omega, by simp, by rw [HS.out]; exact H5.out⟩
          | false =>
            rw [if_neg (by rw [hb]; simp)] at hs
            have HS := Lib.hid hs
            have hc : (boolsA L.length (downB L B0 d))[k]? = some (.bool false) := by rw [boolsA_at _ hkl, hb]
            have HC := Lib.hid hc
            clear hk hkl hx hs hb hc
            go_wp2_with (first
              | (go_at_call 67; ((with_reducible refine HL3.out.mono ?_); rintro e w1 ⟨rfl, rfl⟩))
              | (go_at_call 72; ((with_reducible refine HG3.out.mono ?_); rintro e w3 ⟨rfl, hb3⟩); have H3 := Lib.hid ((HM.out.below hb3).below ((Below.refl _ _).alloc (Nat.le_refl _) (.cells #[.int .i64 x1, .int .i64 x2, .int .i64 x3] 106))); have hlt3 := (HM.out.below hb3).row.lt; have c3 : w3.cell? ⟨g, k, none⟩ = some (.bool false) := ((HM.out.below hb3).row.cell k).trans HC.out; clear hb3))
            have hd := HD.out
            go_roundg (g1 - 1)
            case measure => omega
            case rel => exact ⟨d + 1, by omega, by simp, by rw [HS.out]; exact H3.out⟩
        · have hde : d = N := by have := HD.out; omega
          subst hde
          go_wp2_with fail
          go_ret
          exact ⟨g, rfl, by have := HM.out.row; rw [HN.out] at this; exact this, HG.out, HM.out.low⟩
def RetDead (n : Nat) (w : World) (e : Ending) (w' : World) : Prop := e = .returned (.int .i64 (n : Int)) ∧ Below w.heap.size w w'
theorem deadN_le (B : Nat → Bool) (n : Nat) : deadN B n ≤ n := by have := live_dead B n; omega
set_option maxRecDepth 100000 in
set_option maxHeartbeats 1600000 in
theorem dead_any (hA : Arena w own p lim L) {A : Option Addr} {m c : Nat} {f : Nat → Int} (hI : Ints w A m f) (hm : m ≤ 9223372036854775807) : Calls Tryd.prog 68 #[.pointer (some ⟨p, 0, none⟩), .slice A m c] w (RetDead (deadN (marksB L f m) L.length) w) := by
  have HK := Lib.hid (marks_any (c := c) hA hI hm)
  have hfew := hA.few
  obtain ⟨N, hN⟩ : ∃ N, L.length = N := ⟨_, rfl⟩
  obtain ⟨B, hB⟩ : ∃ B, marksB L f m = B := ⟨_, rfl⟩
  rw [hB] at HK ⊢
  unfold RetMarks at HK
  rw [hN] at HK hfew ⊢
  clear hA hI hB
  go_enter Tryd.func68, Tryd.ntmps68
  go_wp2_with (first
    | (go_at_call 66; ((with_reducible refine HK.out.mono ?_); rintro e w1 ⟨g, rfl, hr, hg, hb⟩); have HR := Lib.hid hr; have HB := Lib.hid hb; clear hr hb hg))
  go_loopg [5, 12] N (fun gk t5 t12 wr => ∃ i : Nat, i + gk = N ∧ t12 = .int .i64 (i : Int) ∧ t5 = .int .i64 ((deadN B i : Nat) : Int) ∧ wr = w1)
  case atStart => exact ⟨0, by omega, rfl, rfl, rfl⟩
  case round =>
    rename Nat => g0
    obtain ⟨i, hi, rfl, rfl, hw⟩ := hrel
    subst hw
    have HI2 := Lib.hid hi
    clear hi
    by_cases him : i < N
    · have hlt := HR.out.lt
      have hle := deadN_le B i
      have hs : deadN B (i + 1) = deadN B i + if B i = true then 0 else 1 := rfl
      obtain ⟨D, hD⟩ : ∃ D, deadN B i = D := ⟨_, rfl⟩
      rw [hD] at hs hle ⊢
      cases hb : B i with
      | true =>
        rw [if_pos hb] at hs
        have HS := Lib.hid hs
        have c0 : wr.cell? ⟨g, i, none⟩ = some (.bool true) := (HR.out.cell i).trans (by rw [boolsA_at _ him, hb])
        clear hs hb hD
        go_wp2_with fail
        have hi := HI2.out
        go_roundg (g0 - 1)
        case measure => omega
        case rel => exact ⟨i + 1, by omega, by simp, by rw [HS.out]; simp, rfl⟩
      | false =>
        rw [if_neg (by rw [hb]; simp)] at hs
        have HS := Lib.hid hs
        have c0 : wr.cell? ⟨g, i, none⟩ = some (.bool false) := (HR.out.cell i).trans (by rw [boolsA_at _ him, hb])
        clear hs hb hD
        go_wp2_with fail
        have hi := HI2.out
        go_roundg (g0 - 1)
        case measure => omega
        case rel => exact ⟨i + 1, by omega, by simp, by rw [HS.out]; simp, rfl⟩
    · have hie : i = N := by have := HI2.out; omega
      subst hie
      go_wp2_with fail
      go_ret
      exact ⟨rfl, HB.out⟩
end
end Go.Proofs.YtlddelnbjihhgaaDoor
