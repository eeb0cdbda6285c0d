/- The walk of NodeStays. -/
import Derived.Test.YtchipmiklbnedaaDoorNCopy
namespace Go.Proofs.YtchipmiklbnedaaDoor
open Go.RowKit
attribute [local go_sem ↓] Go.wp_at_zero Go.wp_at_succ

/-- Two arenas, apart from each other, above what there was. -/
def Duo (w : World) (lim pa : Nat) (La : List Nd) (pc : Nat) (Lc : List Nd) (W : World) : Prop :=
  ∃ owna ownc : Nat → Prop, Arena W owna pa lim La ∧ Arena W ownc pc lim Lc ∧ (∀ i, owna i → ¬ ownc i) ∧ (∀ i, owna i → w.heap.size ≤ i) ∧ (∀ i, ownc i → w.heap.size ≤ i) ∧ Below w.heap.size w W
section
variable {w W W1 : World} {lim pa pc : Nat} {La Lc : List Nd}
theorem Duo.first (h : Duo w lim pa La pc Lc W) : Liv w pa lim La W := by
  obtain ⟨owna, ownc, h1, h2, h3, h4, h5, h6⟩ := h
  exact ⟨owna, h1, h4, h6⟩
theorem Duo.second (h : Duo w lim pa La pc Lc W) : Liv w pc lim Lc W := by
  obtain ⟨owna, ownc, h1, h2, h3, h4, h5, h6⟩ := h
  exact ⟨ownc, h2, h5, h6⟩
theorem Duo.below (h : Duo w lim pa La pc Lc W) (hb : Below W.heap.size W W1) : Duo w lim pa La pc Lc W1 := by
  obtain ⟨owna, ownc, h1, h2, h3, h4, h5, h6⟩ := h
  exact ⟨owna, ownc, h1.below hb, h2.below hb, h3, h4, h5, h6.trans (hb.mono h6.size)⟩
theorem Duo.swap (h : Duo w lim pa La pc Lc W) : Duo w lim pc Lc pa La W := by
  obtain ⟨owna, ownc, h1, h2, h3, h4, h5, h6⟩ := h
  exact ⟨ownc, owna, h2, h1, fun i hc ha => h3 i ha hc, h5, h4, h6⟩
theorem Duo.low (h : Duo w lim pa La pc Lc W) : Below w.heap.size w W := h.first.low
theorem duo_copy (h : Liv w pa lim La W) : Calls Tryd.prog 30 #[.pointer (some ⟨pa, 0, none⟩)] W fun e w' => ∃ pc, e = .returned (.pointer (some ⟨pc, 0, none⟩)) ∧ Duo w lim pa La pc La w' := by
  obtain ⟨own, hA, hw, hb⟩ := h
  exact (copy_any hA).mono fun _ _ ⟨pc, own', h1, h2, h3, h4⟩ => ⟨pc, h1, own, own', hA.below h4, h2, fun i hi hc => by have := hA.old i hi; have := h3 i hc; omega, hw, fun i hi => Nat.le_trans hb.size (h3 i hi), hb.trans (h4.mono hb.size)⟩
/-- What comes to the first one is not seen in the second. -/
theorem duo_mk {v lo hi : Int} {L' : List Nd} (hl : (mkP lim La v lo hi).1 = L') (hfew : La.length + 1 ≤ 4000) (h : Duo w lim pa La pc Lc W) : Calls Tryd.prog 12 #[.pointer (some ⟨pa, 0, none⟩), .int .i64 v, .int .i64 lo, .int .i64 hi] W fun e w' => (∃ u, e = .returned u) ∧ Duo w lim pa L' pc Lc w' := by
  obtain ⟨owna, ownc, h1, h2, h3, h4, h5, h6⟩ := h
  subst hl
  exact (mk_any h1 hfew).mono fun _ _ ⟨ev, own', e1, _, e3, e4, e5⟩ => ⟨⟨_, e1⟩, own', ownc, e3, h2.only e4 (fun i hc ha => h3 i ha hc), fun i hi hc => (e5 i hi).elim (fun ha => h3 i ha hc) (fun hge => by have := h2.old i hc; omega), fun i hi => (e5 i hi).elim (h4 i) (fun hge => Nat.le_trans h6.size hge), h5, h6.trans (e4.below h6.size h4)⟩
theorem duo_mk2 {v lo hi : Int} {L' : List Nd} (hl : (mkP lim Lc v lo hi).1 = L') (hfew : Lc.length + 1 ≤ 4000) (h : Duo w lim pa La pc Lc W) : Calls Tryd.prog 12 #[.pointer (some ⟨pc, 0, none⟩), .int .i64 v, .int .i64 lo, .int .i64 hi] W fun e w' => (∃ u, e = .returned u) ∧ Duo w lim pa La pc L' w' :=
  (duo_mk hl hfew h.swap).mono fun _ _ ⟨h1, h2⟩ => ⟨h1, h2.swap⟩
theorem duo_get {k : Nat} {x1 x2 x3 : Int} (hx : La[k]? = some (x1, x2, x3)) (h : Duo w lim pa La pc Lc W) : Calls Tryd.prog 17 #[.pointer (some ⟨pa, 0, none⟩), .int .i64 (k : Int)] W fun e w' => e = .returned (.tuple #[.agg #[.int .i64 x1, .int .i64 x2, .int .i64 x3], .bool true]) ∧ Below W.heap.size W w' :=
  (liv_get hx h.first).mono fun _ _ ⟨h1, _, h3⟩ => ⟨h1, h3⟩
theorem duo_get2 {k : Nat} {x1 x2 x3 : Int} (hx : Lc[k]? = some (x1, x2, x3)) (h : Duo w lim pa La pc Lc W) : Calls Tryd.prog 17 #[.pointer (some ⟨pc, 0, none⟩), .int .i64 (k : Int)] W fun e w' => e = .returned (.tuple #[.agg #[.int .i64 x1, .int .i64 x2, .int .i64 x3], .bool true]) ∧ Below W.heap.size W w' :=
  (liv_get hx h.second).mono fun _ _ ⟨h1, _, h3⟩ => ⟨h1, h3⟩
theorem liv_len_named {p k : Nat} {L : List Nd} (hk : L.length = k) (h : Liv w p lim L W) : Calls Tryd.prog 15 #[.pointer (some ⟨p, 0, none⟩)] W (RetW (.int .i64 (k : Nat)) W) := by rw [← hk]; exact liv_len h
end
theorem sameN_self (a b c : Int) : sameN a b c a b c = true := by unfold sameN; simp
theorem small_few {lim k : Nat} {L : List Nd} {h : Nat → Nd} (hl : L.length ≤ 60) (hk : k ≤ 60) : (scr lim L h k).length + 1 ≤ 4000 := by have := scr_len lim L h k; omega
attribute [local go_sem ↓] eqN neN eqgN in
set_option maxRecDepth 100000 in
set_option maxHeartbeats 6400000 in
theorem stays_walk (n : Int) (f : Nat → Nd) (A : Option Addr) (m c : Nat) (h : Nat → Nd) (B : Option Addr) (mb cb : Nat) (w : World) (he : ErrTy w) (ht : Tabs w) (hn : -9223372036854775808 ≤ n ∧ n ≤ 9223372036854775807) (_ : m ≤ 9223372036854775807) (_ : m ≤ c) (hO : Ops w A m f) (_ : mb ≤ 9223372036854775807) (_ : mb ≤ cb) (hM : Ops w B mb h) :
    Calls Tryd.prog 7 #[.int .i64 n, .slice A m c, .slice B mb cb] w fun e w' => e = .returned (.bool true) ∧ Below w.heap.size w w' := by
  have HE := Lib.hid he
  have HT := Lib.hid ht
  have ne := ne_nil
  have nn : ∀ w, (binOp .eql 23 (.pointer none) (.pointer none)).run Tryd.prog w = .ok (.bool true) w := fun _ => by kernel_rfl
  clear he ht
  by_cases hm : 60 < m
  · have HF := Lib.hid (build_far_named (A := A) (c := c) hn hm w)
    clear hn hO hM
    go_enter Tryd.func7, Tryd.ntmps7
    go_wp2_with (first
      | (go_at_call 27; ((with_reducible refine HF.out.mono ?_); rintro e w1 ⟨rfl, hb1⟩); have HB1 := Lib.hid hb1; clear hb1)
      | (go_at_call 10; ((with_reducible refine (alive_any _ (HE.out.below HB1.out) (HT.out.stays HB1.out)).mono ?_); rintro e w2 ⟨rfl, hb2⟩); have HB2 := Lib.hid (HB1.out.trans (hb2.mono HB1.out.size)); clear hb2))
    go_ret
    exact ⟨rfl, HB2.out⟩
  · obtain ⟨lim, hlim⟩ : ∃ lim, n.toNat = lim := ⟨_, rfl⟩
    have HF := Lib.hid (build_named (c := c) hlim hn (by omega) w hO)
    have hl := scr_len lim [] f m
    obtain ⟨L, hL⟩ : ∃ L, scr lim [] f m = L := ⟨_, rfl⟩
    rw [hL] at HF hl
    have hl60 : L.length ≤ 60 := by simp at hl; omega
    have HM := Lib.hid hM
    clear hn hO hlim hL hl hM
    by_cases hmb : 60 < mb
    · go_enter Tryd.func7, Tryd.ntmps7
      go_wp2_with (first
        | (go_at_call 27; ((with_reducible refine HF.out.mono ?_); rintro e w1 ⟨p, v, rfl, hb1⟩); have HB1 := Lib.hid (bld_row hb1).2; clear hb1)
        | (go_at_call 10; ((with_reducible refine (alive_any _ (HE.out.below HB1.out) (HT.out.stays HB1.out)).mono ?_); rintro e w2 ⟨rfl, hb2⟩); have HB2 := Lib.hid (HB1.out.trans (hb2.mono HB1.out.size)); clear hb2))
      go_ret
      exact ⟨rfl, HB2.out⟩
    · obtain ⟨q, hq⟩ : ∃ q, L.length = q := ⟨_, rfl⟩
      have HQ := Lib.hid hq
      have hq60 : q ≤ 60 := by omega
      have HL60 := Lib.hid hl60
      clear hq hl60
      go_enter Tryd.func7, Tryd.ntmps7
      go_wp2_with (first
        | (go_at_call 27; ((with_reducible refine HF.out.mono ?_); rintro e w1 ⟨pa, v, rfl, hb1⟩); have H1 := Lib.hid (Liv.of_bld hb1); clear hb1)
        | (go_at_call 30; ((with_reducible refine (duo_copy H1.out).mono ?_); rintro e w2 ⟨pc, rfl, h2⟩); have H2 := Lib.hid h2; have H2f := Lib.hid h2.first; clear h2)
        | (go_at_call 15; ((with_reducible refine (liv_len_named HQ.out H2f.out).mono ?_); rintro e w9 ⟨rfl, rfl⟩)))
      go_loopg [47] mb (fun gk t47 wr => ∃ j : Nat, j + gk = mb ∧ t47 = .int .i64 (j : Int) ∧ Duo w lim pa L pc (scr lim L h j) wr)
      case atStart => exact ⟨0, by omega, rfl, H2.out⟩
      case round =>
        rename Nat => g0
        obtain ⟨j, hj, rfl, hD⟩ := hrel
        have HD := Lib.hid hD
        have HJ := Lib.hid hj
        clear hD hj
        by_cases hjm : j < mb
        · obtain ⟨b, off, x1, x2, x3, hA, hlt, hf, k0, k1, k2⟩ := (HM.out.below HD.out.low).named hjm
          obtain ⟨L', hL'⟩ : ∃ L', (mkP lim (scr lim L h j) x1 x2 x3).1 = L' := ⟨_, rfl⟩
          have HL' := Lib.hid hL'
          have HS : Hid (scr lim L h (j + 1) = L') := Lib.hid (by show (mkP _ _ _ _ _).1 = _; rw [hf]; exact hL')
          have HFew := Lib.hid (small_few (lim := lim) (h := h) (k := j) HL60.out (by omega))
          have HDx := Lib.hid (HD.out.below ((Below.refl wr.heap.size wr).alloc (Nat.le_refl _) (.cells #[.int .i64 x1, .int .i64 x2, .int .i64 x3] 31)))
          subst hA
          clear hf hL'
          go_wp2_with (first
            | (go_at_call 12; ((with_reducible refine (duo_mk2 HL'.out HFew.out HDx.out).mono ?_); rintro e w3 ⟨⟨u3, rfl⟩, h3⟩); have H3 := Lib.hid h3; clear h3))
          have hj := HJ.out
          go_roundg (g0 - 1)
          case measure => omega
          case rel => exact ⟨j + 1, by omega, by simp, by rw [HS.out]; exact H3.out⟩
        · have hje : j = mb := by have := HJ.out; omega
          subst hje
          obtain ⟨Lc, hLc⟩ : ∃ Lc, scr lim L h j = Lc := ⟨_, rfl⟩
          have HLc := Lib.hid hLc
          rw [hLc] at HD
          clear hLc
          go_wp2_with fail
          go_loopg [61] q (fun gk t61 wr => ∃ i : Nat, i + gk = q ∧ t61 = .int .i64 (i : Int) ∧ Duo w lim pa L pc Lc wr)
          case atStart => exact ⟨0, by omega, rfl, HD.out⟩
          case round =>
            rename Nat => g1
            obtain ⟨i, hi, rfl, hE⟩ := hrel
            have HDi := Lib.hid hE
            have HI := Lib.hid hi
            clear hE hi
            by_cases hiq : i < q
            · obtain ⟨x1, x2, x3, hx⟩ := node_named (show i < L.length by have := HQ.out; omega)
              have HX := Lib.hid hx
              have HX2 : Hid (Lc[i]? = some (x1, x2, x3)) := Lib.hid (by rw [← HLc.out]; exact scr_at hx h j)
              clear hx
              have hs := sameN_self x1 x2 x3
              go_wp2_with (first
                | (go_at_call 17; ((with_reducible refine (duo_get HX.out HDi.out).mono ?_); rintro e w3 ⟨rfl, hb3⟩); have HD3 := Lib.hid ((HDi.out.below hb3).below ((Below.refl w3.heap.size w3).alloc (Nat.le_refl _) (.cells #[.int .i64 x1, .int .i64 x2, .int .i64 x3] 42))); have HB3 := Lib.hid (Blk.new w3 42 #[.int .i64 x1, .int .i64 x2, .int .i64 x3]); clear hb3)
                | (go_at_call 17; ((with_reducible refine (duo_get2 HX2.out HD3.out).mono ?_); rintro e w4 ⟨rfl, hb4⟩); have H4 := Lib.hid ((HD3.out.below hb4).below ((Below.refl w4.heap.size w4).alloc (Nat.le_refl _) (.cells #[.int .i64 x1, .int .i64 x2, .int .i64 x3] 42))); have hB4 := HB3.out.below hb4 HB3.out.lt; have b0 : w4.cell? ⟨w3.heap.size, 0, none⟩ = some (.int .i64 x1) := hB4.cell 0; have b1 : w4.cell? ⟨w3.heap.size, 1, none⟩ = some (.int .i64 x2) := hB4.cell 1; have b2 : w4.cell? ⟨w3.heap.size, 2, none⟩ = some (.int .i64 x3) := hB4.cell 2; have hlt4 := hB4.lt; clear hb4 hB4))
              have hi := HI.out
              go_roundg (g1 - 1)
              case measure => omega
              case rel => exact ⟨i + 1, by omega, by simp, H4.out⟩
            · have hie : i = q := by have := HI.out; omega
              subst hie
              go_wp2_with fail
              go_loopg [90] j (fun gk t90 wr => ∃ k : Nat, k + gk = j ∧ t90 = .int .i64 (k : Int) ∧ Duo w lim pa (scr lim L h k) pc Lc wr)
              case atStart => exact ⟨0, by omega, rfl, HDi.out⟩
              case round =>
                rename Nat => g2
                obtain ⟨k, hk, rfl, hDk⟩ := hrel
                have HD := Lib.hid hDk
                have HJ := Lib.hid hk
                clear hDk hk
                by_cases hkj : k < j
                · obtain ⟨b, off, x1, x2, x3, hA, hlt, hf, k0, k1, k2⟩ := (HM.out.below HD.out.low).named (show k < j by omega)
                  obtain ⟨L', hL'⟩ : ∃ L', (mkP lim (scr lim L h k) x1 x2 x3).1 = L' := ⟨_, rfl⟩
                  have HL' := Lib.hid hL'
                  have HS : Hid (scr lim L h (k + 1) = L') := Lib.hid (by show (mkP _ _ _ _ _).1 = _; rw [hf]; exact hL')
                  have HFew := Lib.hid (small_few (lim := lim) (h := h) (k := k) HL60.out (by omega))
                  have HDx := Lib.hid (HD.out.below ((Below.refl wr.heap.size wr).alloc (Nat.le_refl _) (.cells #[.int .i64 x1, .int .i64 x2, .int .i64 x3] 31)))
                  subst hA
                  clear hf hL'
                  go_wp2_with (first
                    | (go_at_call 12; ((with_reducible refine (duo_mk HL'.out HFew.out HDx.out).mono ?_); rintro e w3 ⟨⟨u3, rfl⟩, h3⟩); have H3 := Lib.hid h3; clear h3))
                  have hj := HJ.out
                  go_roundg (g2 - 1)
                  case measure => omega
                  case rel => exact ⟨k + 1, by omega, by simp, by rw [HS.out]; exact H3.out⟩
                · have hke : k = j := by have := HJ.out; omega
                  subst hke
                  rw [HLc.out] at HD
                  obtain ⟨q2, hq2⟩ : ∃ q2, Lc.length = q2 := ⟨_, rfl⟩
                  have HQ2 := Lib.hid hq2
                  have HDf := Lib.hid HD.out.first
                  have hq2b : q2 ≤ 4000 := by rw [← hq2]; exact HDf.out.few
                  clear hq2
                  go_wp2_with (first
                    | (go_at_call 15; ((with_reducible refine (liv_len_named HQ2.out HDf.out).mono ?_); rintro e w9 ⟨rfl, rfl⟩)))
                  go_loopg [105] q2 (fun gk t105 wr => ∃ i : Nat, i + gk = q2 ∧ t105 = .int .i64 (i : Int) ∧ Duo w lim pa Lc pc Lc wr)
                  case atStart => exact ⟨0, by omega, rfl, HD.out⟩
                  case round =>
                    rename Nat => g3
                    obtain ⟨u, hu, rfl, hE⟩ := hrel
                    have HDu := Lib.hid hE
                    have HU := Lib.hid hu
                    clear hE hu
                    by_cases huq : u < q2
                    · obtain ⟨x1, x2, x3, hx⟩ := node_named (show u < Lc.length by have := HQ2.out; omega)
                      have HX := Lib.hid hx
                      clear hx
                      have hs := sameN_self x1 x2 x3
                      go_wp2_with (first
                        | (go_at_call 17; ((with_reducible refine (duo_get HX.out HDu.out).mono ?_); rintro e w3 ⟨rfl, hb3⟩); have HD3 := Lib.hid ((HDu.out.below hb3).below ((Below.refl w3.heap.size w3).alloc (Nat.le_refl _) (.cells #[.int .i64 x1, .int .i64 x2, .int .i64 x3] 42))); have HB3 := Lib.hid (Blk.new w3 42 #[.int .i64 x1, .int .i64 x2, .int .i64 x3]); clear hb3)
                        | (go_at_call 17; ((with_reducible refine (duo_get2 HX.out HD3.out).mono ?_); rintro e w4 ⟨rfl, hb4⟩); have H4 := Lib.hid ((HD3.out.below hb4).below ((Below.refl w4.heap.size w4).alloc (Nat.le_refl _) (.cells #[.int .i64 x1, .int .i64 x2, .int .i64 x3] 42))); have hB4 := HB3.out.below hb4 HB3.out.lt; have b0 : w4.cell? ⟨w3.heap.size, 0, none⟩ = some (.int .i64 x1) := hB4.cell 0; have b1 : w4.cell? ⟨w3.heap.size, 1, none⟩ = some (.int .i64 x2) := hB4.cell 1; have b2 : w4.cell? ⟨w3.heap.size, 2, none⟩ = some (.int .i64 x3) := hB4.cell 2; have hlt4 := hB4.lt; clear hb4 hB4))
                      have hi := HU.out
                      go_roundg (g3 - 1)
                      case measure => omega
                      case rel => exact ⟨u + 1, by omega, by simp, H4.out⟩
                    · have hue : u = q2 := by have := HU.out; omega
                      subst hue
                      go_wp2_with (first
                        | (go_at_call 10; ((with_reducible refine (alive_any _ (HE.out.below HDu.out.low) (HT.out.stays HDu.out.low)).mono ?_); rintro e w5 ⟨rfl, hb5⟩); have H5 := Lib.hid (HDu.out.below hb5); have H5a := Lib.hid (HDu.out.below hb5).first; have H5c := Lib.hid (HDu.out.below hb5).second; clear hb5)
                        | (go_at_call 15; ((with_reducible refine (liv_len_named HQ2.out H5a.out).mono ?_); rintro e w9 ⟨rfl, rfl⟩))
                        | (go_at_call 15; ((with_reducible refine (liv_len_named HQ2.out H5c.out).mono ?_); rintro e w9 ⟨rfl, rfl⟩)))
                      go_ret
                      exact ⟨rfl, H5.out.low⟩
end Go.Proofs.YtchipmiklbnedaaDoor
