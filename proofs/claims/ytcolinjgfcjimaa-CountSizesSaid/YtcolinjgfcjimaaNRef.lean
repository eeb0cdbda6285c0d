/- The contracts of the document's New, Has, Var, Walk, Term and Value. -/
import Derived.Test.YtcolinjgfcjimaaNMore
namespace Go.Proofs.Ytcolinjgfcjimaa
open Go.RowKit
attribute [local go_sem ↓] Go.wp_at_zero Go.wp_at_succ

/-- The document's arena: its limit, and a row of nodes. -/
def RefA (W : World) (A : Option Addr) (c : Nat) (L : List Nd) : Prop := W.ownsRow 0 73 3 (.slice A L.length c) L.length (cellsL L) ∧ L.length ≤ 4000
section
variable {W W1 : World} {A : Option Addr} {c lim : Nat} {L : List Nd}
theorem RefA.below (h : RefA W A c L) (hb : Below W.heap.size W W1) : RefA W1 A c L := ⟨own_below h.1 hb, h.2⟩
theorem RefA.node (h : RefA W A c L) {k : Nat} {x1 x2 x3 : Int} (hx : L[k]? = some (x1, x2, x3)) : ∃ g, A = some ⟨g, 0, none⟩ ∧ g < W.heap.size ∧ W.cell? ⟨g, k * 3, none⟩ = some (.int .i64 x1) ∧ W.cell? ⟨g, k * 3 + 1, none⟩ = some (.int .i64 x2) ∧ W.cell? ⟨g, k * 3 + 2, none⟩ = some (.int .i64 x3) := by
  have hk := get_len hx
  obtain ⟨g, rfl, hg, hc⟩ := row_at h.1 (by omega)
  obtain ⟨h1, h2, h3⟩ := cellsL_at hx
  refine ⟨g, rfl, hg, ?_, ?_, ?_⟩
  · rw [h.1.cellAt _ (by omega)]; exact h1
  · rw [h.1.cellAt _ (by omega)]; exact h2
  · rw [h.1.cellAt _ (by omega)]; exact h3
theorem RefA.cap (h : RefA W A c L) : L.length ≤ c := by
  rcases h.1.2 with ⟨h', h0⟩ | ⟨g, cap, cur, h', _, _, hc, _⟩
  · omega
  · injection h' with _ _ h2
    omega
def RetRB (v : Value) (w : World) (e : Ending) (w' : World) : Prop := e = .returned v ∧ Below w.heap.size w w'
theorem lowest_any (w : World) : Calls Try.prog 57 #[] w (RetW (.int .i64 (-1099511627777)) w) := by
  go_enter Try.func57, Try.ntmps57
  go_wp2_with fail
  go_ret
  exact ⟨rfl, rfl⟩
/-- The arena's box. -/
def refBox (lim : Nat) (A : Option Addr) (n c : Nat) : Obj := .cells #[.int .i64 lim, .slice A n c] 27
theorem rhas_any {r : Int} (h : RefA W A c L) : Calls Try.prog 34 #[.agg #[.int .i64 lim, .slice A L.length c], .int .i64 r] W (RetRB (.bool (hasP L.length r)) W) := by
  have hfew := h.2
  have hb := Lib.hid ((Below.refl W.heap.size W).alloc (Nat.le_refl _) (refBox lim A L.length c))
  unfold refBox at hb
  clear h
  by_cases h1 : -1099511627777 ≤ r
  · by_cases h2 : r < (L.length : Int)
    · rw [show hasP L.length r = true by rw [hasP_iff]; exact ⟨h1, h2⟩]
      go_enter Try.func34, Try.ntmps34
      go_wp2_with (go_at_call 57; ((with_reducible refine (lowest_any _).mono ?_); rintro e w1 ⟨rfl, rfl⟩))
      go_ret
      exact ⟨rfl, hb.out⟩
    · rw [show hasP L.length r = false by cases e : hasP L.length r; rfl; rw [hasP_iff] at e; omega]
      have hd : decide (r < (L.length : Int)) = false := decide_eq_false h2
      go_enter Try.func34, Try.ntmps34
      go_wp2_with (go_at_call 57; ((with_reducible refine (lowest_any _).mono ?_); rintro e w1 ⟨rfl, rfl⟩))
      go_ret
      exact ⟨rfl, hb.out⟩
  · rw [show hasP L.length r = false by cases e : hasP L.length r; rfl; rw [hasP_iff] at e; omega]
    go_enter Try.func34, Try.ntmps34
    go_wp2_with (go_at_call 57; ((with_reducible refine (lowest_any _).mono ?_); rintro e w1 ⟨rfl, rfl⟩))
    go_ret
    exact ⟨rfl, hb.out⟩
theorem rvar_any {r : Int} (h : RefA W A c L) : Calls Try.prog 49 #[.agg #[.int .i64 lim, .slice A L.length c], .int .i64 r] W (RetRB (.int .i64 (varP L r)) W) := by
  have hfew := h.2
  have hb := Lib.hid ((Below.refl W.heap.size W).alloc (Nat.le_refl _) (refBox lim A L.length c))
  have hbb := (Below.refl W.heap.size W).alloc (Nat.le_refl _) (refBox lim A L.length c)
  by_cases hin : 0 ≤ r ∧ r < (L.length : Int)
  · obtain ⟨k, rfl⟩ : ∃ k : Nat, r = (k : Int) := ⟨r.toNat, by omega⟩
    obtain ⟨x1, x2, x3, hx⟩ := node_named (show k < L.length by omega)
    obtain ⟨g, rfl, hg, k0, k1, k2⟩ := (h.below hbb).node hx
    have hv : varP L (k : Int) = x1 := varP_at hx
    rw [hv]
    have hcap := h.cap
    unfold refBox at hb hbb k0 k1 k2 hg
    clear hv hx h hbb
    obtain ⟨hin0, hin1⟩ := hin
    go_enter Try.func49, Try.ntmps49
    go_wp2_with fail
    go_ret
    exact ⟨rfl, hb.out⟩
  · have hv : varP L r = 12 := by unfold varP; rw [if_neg hin]
    rw [hv]
    unfold refBox at hb
    clear hv h hbb
    by_cases h0 : r < 0
    · clear hin
      go_enter Try.func49, Try.ntmps49
      go_wp2_with fail
      go_ret
      exact ⟨rfl, hb.out⟩
    · have h1 : (L.length : Int) ≤ r := by omega
      clear hin
      go_enter Try.func49, Try.ntmps49
      go_wp2_with fail
      go_ret
      exact ⟨rfl, hb.out⟩
def RetRNew (lim : Nat) (w : World) (e : Ending) (w' : World) : Prop := e = .returned (.agg #[.int .i64 lim, .slice none 0 0]) ∧ Below w.heap.size w w'
theorem rnew_any {n : Int} {lim : Nat} (hl : n.toNat = lim) (w : World) : Calls Try.prog 28 #[.int .i64 n] w (RetRNew lim w) := by
  have hb := Lib.hid ((Below.refl w.heap.size w).alloc (Nat.le_refl _) (.cells #[.int .i64 lim, .slice none 0 0] 27))
  by_cases h0 : n < 0
  · obtain rfl : lim = 0 := by omega
    clear hl
    go_enter Try.func28, Try.ntmps28
    go_wp2_with fail
    exact bodyPost_ret (v := .agg #[.int .i64 ((0 : Nat) : Int), .slice none 0 0]) (by simp [results, Try.results28, go_sem]) rfl ⟨rfl, hb.out⟩
  · obtain rfl : n = (lim : Int) := by omega
    clear hl h0
    go_enter Try.func28, Try.ntmps28
    go_wp2_with fail
    exact bodyPost_ret (v := .agg #[.int .i64 (lim : Int), .slice none 0 0]) (by simp [results, Try.results28, go_sem]) rfl ⟨rfl, hb.out⟩
theorem refA_none (W : World) : RefA W none 0 [] := ⟨World.ownsRow_nil _ _ _ _, by simp⟩
theorem half_more (b i : Nat) : b / 2 ^ i / 2 = b / 2 ^ (i + 1) := by rw [Nat.div_div_eq_div_mul, Nat.pow_succ]
set_option maxRecDepth 100000 in
set_option maxHeartbeats 1600000 in
theorem rwalk_any {r : Int} {b : Nat} {y : Int} (hy : endP L b r = y) (h : RefA W A c L) (hu : RightL L) (hbb : b < 18446744073709551616) :
    Calls Try.prog 58 #[.agg #[.int .i64 lim, .slice A L.length c], .int .i64 r, .int .u64 (b : Int)] W (RetRB (.int .i64 y) W) := by
  have HA := Lib.hid h
  have HU := Lib.hid hu
  have HY := Lib.hid hy
  have hfew := h.2
  have hcap := h.cap
  have hb0 := (Below.refl W.heap.size W).alloc (Nat.le_refl _) (refBox lim A L.length c)
  have HB0 : Hid (Blk (W.alloc (refBox lim A L.length c)) W.heap.size 27 #[.int .i64 lim, .slice A L.length c] ∧ Below W.heap.size W (W.alloc (refBox lim A L.length c))) := Lib.hid ⟨Blk.new _ _ _, hb0⟩
  unfold refBox at HB0
  clear h hu hy hb0
  go_enter Try.func58, Try.ntmps58
  go_wp2_with fail
  go_loopg [1] (r + 1).toNat (fun k t1 wr => ∃ s : Int, t1 = .int .i64 s ∧ (s + 1).toNat ≤ k ∧ endP L b s = endP L b r ∧ Blk wr W.heap.size 27 #[.int .i64 lim, .slice A L.length c] ∧ Below W.heap.size W wr)
  case atStart => exact ⟨r, rfl, Nat.le_refl _, rfl, HB0.out⟩
  case round =>
    rename Nat => g0
    obtain ⟨s, rfl, hk, he, hbx, hbw⟩ := hrel
    have HK := Lib.hid hk
    have HEq := Lib.hid he
    have c0 : wr.cell? ⟨W.heap.size, 0, none⟩ = some (.int .i64 lim) := hbx.cell 0
    have c1 : wr.cell? ⟨W.heap.size, 1, none⟩ = some (.slice A L.length c) := hbx.cell 1
    have hWlt := hbx.lt
    have HBx := Lib.hid hbx
    have HBw := Lib.hid hbw
    clear hk he hbx hbw
    by_cases hin : 0 ≤ s ∧ s < (L.length : Int)
    · obtain ⟨k, rfl⟩ : ∃ k : Nat, s = (k : Int) := ⟨s.toNat, by omega⟩
      have hkl : k < L.length := by omega
      obtain ⟨x1, x2, x3, hx⟩ := node_named hkl
      obtain ⟨g, hA, hg, k0, k1, k2⟩ := (HA.out.below HBw.out).node hx
      obtain ⟨hin0, hin1⟩ := hin
      have hv := (HU.out.1 k _ hx).1
      dsimp only at hv
      obtain ⟨V, rfl⟩ : ∃ V : Nat, x1 = (V : Int) := ⟨x1.toNat, by omega⟩
      have hend := endP_node HU.out b hx
      have hend : endP L b (k : Int) = endP L b (if b.testBit V = true then x3 else x2) := by simpa using hend
      obtain ⟨-, -, ⟨w1, -⟩, w2, -⟩ := HU.out.1 k _ hx
      rw [hasP_iff] at w1 w2
      dsimp only at w1 w2
      have hk1 := HK.out
      have HQ : Hid ((x2 + 1).toNat ≤ g0 - 1 ∧ (x3 + 1).toNat ≤ g0 - 1 ∧ g0 - 1 < g0) := Lib.hid (by omega)
      have HEnd := Lib.hid hend
      subst hA
      have hV12 : V < 12 := by omega
      clear hx w1 w2 hk1 hend hv
      go_wp2_with fail
      have HBn := Lib.hid (Blk.new wr 73 #[.int .i64 (V : Int), .int .i64 x2, .int .i64 x3])
      have hbn := (Below.refl wr.heap.size wr).alloc (Nat.le_refl _) (.cells #[.int .i64 (V : Int), .int .i64 x2, .int .i64 x3] 73)
      have HBx2 := Lib.hid (HBx.out.below hbn HBx.out.lt)
      have HBw2 := Lib.hid (HBw.out.trans (hbn.mono HBw.out.size))
      clear hbn
      go_loop [8, 9] (fun t8 t9 => ∃ i : Nat, i ≤ V ∧ t9 = .int .i64 (i : Int) ∧ t8 = .int .u64 ((b / 2 ^ i : Nat) : Int)) (fun _ t9 => V - (intOf t9).toNat)
      case atStart => exact ⟨0, Nat.zero_le _, rfl, by simp⟩
      case round =>
        obtain ⟨i, hiV, rfl, rfl⟩ := hrel
        have hlt : b / 2 ^ i < 18446744073709551616 := Nat.lt_of_le_of_lt (Nat.div_le_self _ _) hbb
        obtain ⟨d, hd⟩ : ∃ d, b / 2 ^ i = d := ⟨_, rfl⟩
        rw [hd] at hlt ⊢
        have HD := Lib.hid hd
        clear hd
        by_cases hiv : i < V
        · go_wp2_with fail
          go_round
          case rel => exact ⟨i + 1, by omega, by go_num, by rw [← half_more, HD.out]; simp⟩
          case measure => simp [intOf]; omega
        · have hie : i = V := by omega
          subst hie
          have htb : b.testBit i = decide (d % 2 = 1) := by rw [Nat.testBit_eq_decide_div_mod_eq, HD.out]
          by_cases ho : d % 2 = 1
          · have HEn := Lib.hid (show endP L b (k : Int) = endP L b x3 by rw [HEnd.out, htb, decide_eq_true ho]; rfl)
            have e1 : ((d : Int) % 2 == 1) = true := by simp; omega
            have e2 : decide ((d : Int) % 2 = 1) = true := decide_eq_true (by omega)
            have e3 : (d : Int) % 2 = 1 := by omega
            clear ho htb
            go_wp2_with fail
            go_roundg (g0 - 1)
            case measure => exact HQ.out.2.2
            case rel => exact ⟨_, rfl, HQ.out.2.1, HEn.out.symm.trans HEq.out, HBx2.out, HBw2.out⟩
          · have HEn := Lib.hid (show endP L b (k : Int) = endP L b x2 by rw [HEnd.out, htb, decide_eq_false ho]; rfl)
            have e3 : (d : Int) % 2 = 0 := by omega
            clear ho htb
            go_wp2_with fail
            go_roundg (g0 - 1)
            case measure => exact HQ.out.2.2
            case rel => exact ⟨_, rfl, HQ.out.1, HEn.out.symm.trans HEq.out, HBx2.out, HBw2.out⟩
    · have hend := endP_out (bits := b) hin
      have HF : Hid (s = y) := Lib.hid (by rw [← HY.out, ← HEq.out, hend])
      clear hend
      by_cases h0 : 0 ≤ s
      · have h1 : (L.length : Int) ≤ s := by omega
        clear hin
        go_wp2_with fail
        go_ret
        exact ⟨by rw [← HF.out]; rfl, HBw.out⟩
      · clear hin
        go_wp2_with fail
        go_ret
        exact ⟨by rw [← HF.out]; rfl, HBw.out⟩
end
end Go.Proofs.Ytcolinjgfcjimaa
