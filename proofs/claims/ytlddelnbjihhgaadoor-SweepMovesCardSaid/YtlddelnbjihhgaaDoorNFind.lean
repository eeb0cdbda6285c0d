/- The contract of find: where a node stands, or the free place where it would. -/
import Derived.Test.YtlddelnbjihhgaaDoorNStart
import Derived.Test.YtlddelnbjihhgaaDoorNEq
import Derived.Deep.LoopGhost
namespace Go.Proofs.YtlddelnbjihhgaaDoor
open Go.RowKit
attribute [local go_sem ↓] Go.wp_at_zero Go.wp_at_succ eqN eqgN

def RetFound (P : Nat) (T : Nat → Nat) (L : List Nd) (x : Nd) (w : World) (e : Ending) (w' : World) : Prop :=
  ∃ (place ref : Nat) (held : Bool), e = .returned (.tuple #[.int .i64 place, .int .i64 ref, .bool held]) ∧ Found P T L x (stP P x) place ref held ∧ Below w.heap.size w w'
theorem keep_box {w W W1 : World} (hb : Below W.heap.size W W1) {p o : Nat} {x y z u : Option Value} (h : Below w.heap.size w W ∧ w.heap.size < W.heap.size ∧ p < W.heap.size ∧ W.cell? ⟨w.heap.size, 0, none⟩ = x ∧ W.cell? ⟨w.heap.size, 1, none⟩ = y ∧ W.cell? ⟨w.heap.size, 2, none⟩ = z ∧ W.cell? ⟨p, o, none⟩ = u) :
    Below w.heap.size w W1 ∧ w.heap.size < W1.heap.size ∧ p < W1.heap.size ∧ W1.cell? ⟨w.heap.size, 0, none⟩ = x ∧ W1.cell? ⟨w.heap.size, 1, none⟩ = y ∧ W1.cell? ⟨w.heap.size, 2, none⟩ = z ∧ W1.cell? ⟨p, o, none⟩ = u := by
  obtain ⟨h0, h1, h2, h3, h4, h5, h6⟩ := h
  have hs := hb.size
  exact ⟨h0.trans (hb.mono h0.size), by omega, by omega, (hb.cell (p := ⟨w.heap.size, 0, none⟩) h1).trans h3, (hb.cell (p := ⟨w.heap.size, 1, none⟩) h1).trans h4, (hb.cell (p := ⟨w.heap.size, 2, none⟩) h1).trans h5, (hb.cell (p := ⟨p, o, none⟩) h2).trans h6⟩
/-- Inside the search: the node's own box, and all that there was. -/
def Finding (w : World) (v l h : Int) (W : World) : Prop := Blk W w.heap.size 106 #[.int .i64 v, .int .i64 l, .int .i64 h] ∧ Below w.heap.size w W

theorem Finding.below {w W W1 : World} {v l h : Int} (x : Finding w v l h W) (hb : Below W.heap.size W W1) : Finding w v l h W1 := ⟨x.1.below hb x.1.lt, x.2.trans (hb.mono x.2.size)⟩
theorem drewN_below (w : World) : ∀ q, Below w.heap.size w (w.drewN q)
  | 0 => Below.refl _ _
  | q + 1 => (drewN_below w q).trans (Below.refl _ _).drew

section
variable {W : World} {own : Nat → Prop} {p lim P cn cp : Nat} {L : List Nd} {T : Nat → Nat} {An Ap : Option Addr}
set_option maxRecDepth 100000 in
set_option maxHeartbeats 1600000 in
theorem find_any {v l h : Int} (hA : ArenaR W own p lim L P T An Ap cn cp) (hP : 0 < P) (hT : ∀ s, s < P → T s ≤ L.length) (hf : taken T P < P) :
    Calls Tryd.prog 104 #[.pointer (some ⟨p, 0, none⟩), .agg #[.int .i64 v, .int .i64 l, .int .i64 h]] W (RetFound P T L (v, l, h) W) := by
  obtain ⟨d0, hd0, hz0⟩ := free_step (stP_is P (v, l, h) hP).2 hf
  have HA := Lib.hid hA
  have HT := Lib.hid hT
  have hs := (stP_is P (v, l, h) hP).2
  have hroom := hA.room
  have hfew := hA.few
  have HZ := Lib.hid hz0
  have HS := Lib.hid (fun W => start_any v l h P hP hA.room W)
  have hb0 := (Below.refl W.heap.size W).alloc (Nat.le_refl _) (.cells #[.int .i64 v, .int .i64 l, .int .i64 h] 106)
  have HB := Lib.hid (Blk.new W 106 #[.int .i64 v, .int .i64 l, .int .i64 h])
  have K0 : Hid (Below W.heap.size W (W.alloc (.cells #[.int .i64 v, .int .i64 l, .int .i64 h] 106)).drew ∧ W.heap.size < (W.alloc (.cells #[.int .i64 v, .int .i64 l, .int .i64 h] 106)).drew.heap.size ∧ p < (W.alloc (.cells #[.int .i64 v, .int .i64 l, .int .i64 h] 106)).drew.heap.size ∧ (W.alloc (.cells #[.int .i64 v, .int .i64 l, .int .i64 h] 106)).drew.cell? ⟨W.heap.size, 0, none⟩ = some (.int .i64 v) ∧ (W.alloc (.cells #[.int .i64 v, .int .i64 l, .int .i64 h] 106)).drew.cell? ⟨W.heap.size, 1, none⟩ = some (.int .i64 l) ∧ (W.alloc (.cells #[.int .i64 v, .int .i64 l, .int .i64 h] 106)).drew.cell? ⟨W.heap.size, 2, none⟩ = some (.int .i64 h) ∧ (W.alloc (.cells #[.int .i64 v, .int .i64 l, .int .i64 h] 106)).drew.cell? ⟨p, 2, none⟩ = some (.slice Ap P cp)) :=
    Lib.hid ⟨hb0.drew, HB.out.lt, Nat.lt_of_lt_of_le hA.blk.lt hb0.size, HB.out.cell 0, HB.out.cell 1, HB.out.cell 2, (hb0.cell (p := ⟨p, 2, none⟩) hA.blk.lt).trans hA.c2⟩
  have HF0 : Hid (Finding W v l h (W.alloc (.cells #[.int .i64 v, .int .i64 l, .int .i64 h] 106))) := Lib.hid ⟨HB.out, hb0⟩
  clear hA hT hf hz0 hb0 HB
  generalize hst : stP P (v, l, h) = st at *
  have HST := Lib.hid hst
  clear hst
  go_enter Tryd.func104, Tryd.ntmps104
  go_wp2_with fail
  go_step3
  go_wp2_with fail
  go_step3
  go_wp2_with fail
  go_region_held3 (fun w' => Below W.heap.size W w' ∧ W.heap.size < w'.heap.size ∧ p < w'.heap.size ∧ w'.cell? ⟨W.heap.size, 0, none⟩ = some (.int .i64 v) ∧ w'.cell? ⟨W.heap.size, 1, none⟩ = some (.int .i64 l) ∧ w'.cell? ⟨W.heap.size, 2, none⟩ = some (.int .i64 h) ∧ w'.cell? ⟨p, 2, none⟩ = some (.slice Ap P cp))
    (first | (with_reducible exact K0.out) | (with_reducible exact keep_box hb1 (by assumption)))
    (first
      | (go_at_call 123; ((with_reducible refine (HS.out _).mono ?_); rintro e w1 ⟨rfl, hb1⟩)))
  have HF1 := Lib.hid ((HF0.out.below (Below.refl _ _).drew).below hb1)
  clear hb1
  go_wp2_with fail
  go_loopg [4, 5] d0 (fun k t4 t5 wr => ∃ (d : Nat) (z : Int), d + k = d0 ∧ t4 = .int .i64 (((st + d) % P : Nat) : Int) ∧ t5 = .int .i64 z ∧ Steps P T L (v, l, h) st d ∧ Finding W v l h wr)
  case atStart => exact ⟨0, 0, by omega, by rw [Nat.add_zero, Nat.mod_eq_of_lt hs], rfl, fun k hk => absurd hk (by omega), HF1.out⟩
  case round =>
    obtain ⟨d, z, hd, h4, rfl, hSt, hF⟩ := hrel
    obtain ⟨s, hs'⟩ : ∃ s, s = (st + d) % P := ⟨_, rfl⟩
    obtain ⟨q, hq⟩ : ∃ q, q = T s := ⟨_, rfl⟩
    rw [← hs'] at h4
    subst h4
    have hsP : s < P := by rw [hs']; exact Nat.mod_lt _ hP
    have hR := HA.out.below hF.2
    obtain ⟨gp, hAp, hc⟩ := hR.place hsP
    rw [← hq] at hc
    have HSt := Lib.hid hSt
    have HFd := Lib.hid hF
    have c1 := hR.c1
    have c2 := hR.c2
    rw [hAp] at c2
    have HAp := Lib.hid hAp
    have HNx := Lib.hid (next_step P st d)
    have hTs : q ≤ L.length := by rw [hq]; exact HT.out _ hsP
    have HE : Hid (d ≤ d0 ∧ (d = d0 → T s = 0)) := Lib.hid ⟨by omega, fun e => by rw [hs', e]; exact HZ.out⟩
    have HR := Lib.hid hR
    have HS' := Lib.hid hs'
    have HQ := Lib.hid hq
    clear hSt hF hR hs' hq hAp
    have HDk := Lib.hid hd
    clear hd
    by_cases h0 : q = 0
    · have d1 : decide ((q : Int) - 1 < 0) = true := decide_eq_true (by omega)
      have d2 : decide ((q : Int) < 1) = true := decide_eq_true (by omega)
      have d3 : decide (q < 1) = true := decide_eq_true (by omega)
      have H0 := Lib.hid h0
      have l1 : (q : Int) < 1 := by omega
      clear h0
      go_wp2_with fail
      try rw [Exit.noGoto_ret]
      go_ret3
      exact ⟨s, 0, false, rfl, by rw [HST.out]; exact ⟨d, by have := HE.out.1; omega, HS'.out, HSt.out, .inl ⟨rfl, rfl, by rw [← HQ.out]; exact H0.out⟩⟩, HFd.out.2⟩
    · obtain ⟨k, hk⟩ : ∃ k, q = k + 1 := ⟨q - 1, by omega⟩
      replace hc : wr.cell? ⟨gp, s, none⟩ = some (.int .i64 ((k : Int) + 1)) := by rw [hc, hk]; simp
      have hkl : k < L.length := by omega
      obtain ⟨y, hy⟩ : ∃ y, L[k]? = some y := ⟨L[k], List.getElem?_eq_getElem hkl⟩
      obtain ⟨gn, hAn, -, n0, n1, n2⟩ := HR.out.node hy
      rw [hAn] at c1
      have b0 : wr.cell? ⟨W.heap.size, 0, none⟩ = some (.int .i64 v) := HFd.out.1.cell 0
      have b1 : wr.cell? ⟨W.heap.size, 1, none⟩ = some (.int .i64 l) := HFd.out.1.cell 1
      have b2 : wr.cell? ⟨W.heap.size, 2, none⟩ = some (.int .i64 h) := HFd.out.1.cell 2
      have HY := Lib.hid hy
      have HK := Lib.hid hk
      have hsn := sameN_iff y (v, l, h)
      dsimp only at hsn
      clear hk h0 hy hAn hTs
      cases hb : sameN y.1 y.2.1 y.2.2 v l h
      · have HN := Lib.hid (show decide (y = (v, l, h)) = false from hsn.symm.trans hb)
        clear hsn
        go_wp2_with fail
        go_quiet (fail)
        go_wp2_with fail
        have hdd : d < d0 := by
          have e1 := HE.out.1
          have e2 := HE.out.2
          have e3 := HQ.out
          have e4 := HK.out
          rcases Nat.lt_or_ge d d0 with hlt | hge
          · exact hlt
          · have := e2 (by omega)
            omega
        have hdk := HDk.out
        go_roundg (gk - 1)
        case measure => omega
        case rel =>
          refine ⟨d + 1, _, by omega, ?_, rfl, ?_, ?_⟩
          · rw [← HNx.out, ← HS'.out]
            rfl
          · intro i hi
            rcases Nat.lt_or_ge i d with hlt | hge
            · exact HSt.out i hlt
            · obtain rfl : i = d := by omega
              rw [← HS'.out, ← HQ.out, HK.out, Nat.add_sub_cancel, HY.out]
              exact ⟨by omega, fun e => of_decide_eq_false HN.out (Option.some.inj e)⟩
          · exact HFd.out.below (drewN_below _ _)
      · have HN := Lib.hid (show decide (y = (v, l, h)) = true from hsn.symm.trans hb)
        clear hsn
        go_wp2_with fail
        go_quiet (fail)
        go_wp2_with fail
        try rw [Exit.noGoto_ret]
        go_ret3
        exact ⟨s, k, true, rfl, by rw [HST.out]; exact ⟨d, by have := HE.out.1; omega, HS'.out, HSt.out, .inr ⟨rfl, by rw [← HQ.out]; exact HK.out, by rw [HY.out]; exact congrArg some (of_decide_eq_true HN.out)⟩⟩, HFd.out.2.trans ((drewN_below _ _).mono HFd.out.2.size)⟩
end
end Go.Proofs.YtlddelnbjihhgaaDoor
