/- The parse layer: ParseBlanks' walk. -/
import Derived.Test.YteaongdlbleehaaGreatDoorGPsAl
import Derived.Test.YteaongdlbleehaaGreatDoorPsBlS
namespace Go.Proofs.YteaongdlbleehaaGreatDoor
open Go.RowKit
section
variable {B b len k n : Nat} {M : Value} {s : PS} {w : World}
def FitsB (a b : ByteArray) : Prop := a.size + b.size ≤ 9223372036854775807
theorem cat_okB {P : Program} (w : World) (a b : ByteArray) (h : FitsB a b) : (Op.stringOp .add a b).run P w = .ok (.string (a ++ b)) w := run_string_add_sum w a b h
attribute [local go_sem ↓] cat_okB
theorem bA_size (l : Bs) : (bA l).size = l.length := rfl
theorem scan_yes {l : List Tok} {a k : Nat} {t : Tok} (h : l[k]? = some t) (e : t.at_ = a) : scanT l a (k + 1) = (k : Int) := by simp only [scanT]; rw [if_pos (by rw [h, ← e]; rfl)]
theorem scan_no {l : List Tok} {a k : Nat} {t : Tok} (h : l[k]? = some t) (e : ¬ t.at_ = a) : scanT l a (k + 1) = scanT l a k := by simp only [scanT]; rw [if_neg (by rw [h]; simpa using e)]
set_option maxHeartbeats 6400000 in
set_option maxRecDepth 100000 in
theorem blanks_walk (src : ByteArray) (W : World) (ht : Tabs W) : Calls Tryz.prog 5 #[.string src] W (fun e w' => e = .returned (.bool true) ∧ Below W.heap.size W w') := by
  have HAl : Hid (∀ w, Below W.heap.size W w → Calls Tryz.prog 6 #[] w (fun e w' => e = .returned (.bool true) ∧ Below w.heap.size w w')) := Lib.hid fun w hb => alive13_any w (ht.stays hb)
  have B0 : Hid (Below W.heap.size W W) := Lib.hid (Below.refl _ _)
  by_cases hlen : 2000 < src.size
  · have g0 : ((src.size : Int) > 2000) := by omega
    clear hlen
    go_enter Tryz.func5, Tryz.ntmps5
    go_wp2_with (go_at_call 6; have HY := HAl.out _ B0.out; (with_reducible refine HY.mono ?_); clear HY; rintro e w1 ⟨rfl, hb⟩; have B1 := Lib.hid (thru B0.out hb); clear hb)
    go_ret
    exact ⟨rfl, B1.out⟩
  · have g0 : ¬ ((src.size : Int) > 2000) := by omega
    clear hlen
    obtain ⟨l, hl⟩ : ∃ l, src.data.toList = l := ⟨_, rfl⟩
    obtain ⟨ts, at1, no, hlx⟩ : ∃ ts at1 no, lexS l = (ts, at1, no) := ⟨_, _, _, rfl⟩
    have HLx : Hid (∀ w, Calls Tryz.prog 15 #[.string src] w (fun e w' => ∃ v, e = .returned (.tuple #[v, .int .i64 (at1 : Int), .int .i64 (no : Int)]) ∧ w'.ownsRow w.heap.size 49 4 v ts.length (tcells ts) ∧ Below w.heap.size w w')) := Lib.hid fun w => by
      have := lex_any src w
      unfold RetL at this
      rw [hl, hlx] at this
      exact this
    by_cases hno : no = 0
    · subst hno
      have g1 : (((0 : Nat) : Int) != 0) = false := rfl
      have htx := lexS_txt l
      have hsm := lexS_small l
      rw [hlx] at htx hsm
      have hts : ts.length ≤ 4096 := hsm.2.1
      have HTx : Hid (∀ t ∈ ts, t.text.length ≤ 4096) := Lib.hid htx
      obtain ⟨m, hm⟩ : ∃ m, ts.length = m := ⟨_, rfl⟩
      have HM := Lib.hid hm
      have HMl : Hid (m ≤ 4096) := Lib.hid (by rw [← hm]; exact hts)
      have HLt : Hid (∀ k, (lineT (ts.take k)).length ≤ 20000000) := Lib.hid fun k => by
        have h1 := lineT_len (ts := ts.take k) (fun t h => htx t (List.mem_of_mem_take h))
        have h2 : (ts.take k).length ≤ 4096 := by rw [List.length_take]; omega
        omega
      have HSr : Hid (src.size = l.length) := Lib.hid (by rw [← hl]; rfl)
      have HL := Lib.hid hl
      have HLX := Lib.hid hlx
      have HT := Lib.hid ht
      rw [hm] at HLx
      clear hl hlx htx hsm hts hm ht
      go_enter Tryz.func5, Tryz.ntmps5
      go_upto_region 3 with fail
      go_upto_region 6 with (go_at_call 15; have HY := HLx.out W; (with_reducible refine HY.mono ?_); clear HY; rintro e w1 ⟨v, rfl, ho, hb⟩; have O1 := Lib.hid ho; have B1 := Lib.hid hb; clear ho hb)
      have hrow : ∃ A c, v = .slice A m c ∧ m ≤ c ∧ TokR w1 w1.heap.size A ts := by
        have h := O1.out
        rw [← HM.out] at h ⊢
        exact tok_row h
      obtain ⟨A, c, rfl, hc, htr⟩ := hrow
      have HC := Lib.hid hc
      have TR := Lib.hid htr
      clear hc htr O1
      go_upto_region 8 with fail
      go_loopw [6, 36] (fun v6 v36 wr => ∃ k : Nat, v36 = .int .i64 (k : Int) ∧ k ≤ m ∧ v6 = .string (bA (lineT (ts.take k))) ∧ Below w1.heap.size w1 wr) (fun _ v36 _ => m - (RowKit.intOf v36).toNat)
      case atStart => exact ⟨0, rfl, Nat.zero_le _, rfl, Below.refl _ _⟩
      case round =>
        obtain ⟨k, rfl, hk, rfl, hbw⟩ := hrel
        by_cases hlt : k < m
        · obtain ⟨t, htk⟩ : ∃ t, ts[k]? = some t := ⟨ts[k]'(by rw [HM.out]; exact hlt), List.getElem?_eq_getElem _⟩
          obtain ⟨g, off, rfl, hg, hcell⟩ := TR.out (by rintro rfl; have := HM.out; simp at this; omega)
          obtain ⟨c0, c1, c2, c3⟩ := tcells_at htk
          have q0 := (hbw.cell (p := ⟨g, off + k * 4, none⟩) hg).trans (hcell _ _ c0)
          have q1 := (hbw.cell (p := ⟨g, off + (k * 4 + 1), none⟩) hg).trans (hcell _ _ c1)
          have q2 := (hbw.cell (p := ⟨g, off + (k * 4 + 2), none⟩) hg).trans (hcell _ _ c2)
          have q3 := (hbw.cell (p := ⟨g, off + (k * 4 + 3), none⟩) hg).trans (hcell _ _ c3)
          rw [← Nat.add_assoc] at q1 q2 q3
          have HTk := Lib.hid htk
          obtain ⟨SK, hSK⟩ : ∃ q, q = bA (lineT (ts.take k)) := ⟨_, rfl⟩
          obtain ⟨TX, hTX⟩ : ∃ q, q = bA t.text := ⟨_, rfl⟩
          have e1 : SK.size ≤ 20000000 := by rw [hSK, bA_size]; exact HLt.out k
          have e2 : TX.size ≤ 4096 := by rw [hTX, bA_size]; exact HTx.out t (List.mem_of_getElem? htk)
          have f1 : FitsB TX ⟨#[32, 35, 32, 110, 111, 10]⟩ := by unfold FitsB; have : ((⟨#[32, 35, 32, 110, 111, 10]⟩ : ByteArray)).size = 6 := rfl; omega
          have f2 : FitsB SK (TX ++ ⟨#[32, 35, 32, 110, 111, 10]⟩) := by unfold FitsB; rw [ByteArray.size_append]; have : ((⟨#[32, 35, 32, 110, 111, 10]⟩ : ByteArray)).size = 6 := rfl; omega
          have HN : Hid (SK ++ (TX ++ ⟨#[32, 35, 32, 110, 111, 10]⟩) = bA (lineT (ts.take (k + 1)))) := Lib.hid (by rw [lineT_take htk, hSK, hTX, ← bA_cat, ← bA_cat]; rfl)
          change wr.cell? _ = some (.string (bA t.text)) at q1
          rw [← hTX] at q1
          rw [← hSK]
          have HBw := Lib.hid hbw
          have hlc : k < c := Nat.lt_of_lt_of_le hlt HC.out
          have hm4 : m ≤ 4096 := HMl.out
          clear hbw htk hcell c0 c1 c2 c3 hSK hTX e1 e2
          go_wp2_with fail
          go_roundw
          case rel => exact ⟨k + 1, by go_num, hlt, by rw [HN.out], HBw.out.alloc HBw.out.size _⟩
          case measure => simp [RowKit.intOf]; omega
        · have he : k = m := by omega
          subst he
          have hT : ts.take k = ts := by rw [← HM.out, List.take_length]
          rw [hT]
          have B2 : Hid (Below W.heap.size W wr) := Lib.hid (thru B1.out hbw)
          obtain ⟨S, hS⟩ : ∃ S, S = bA (lineT ts) := ⟨_, rfl⟩
          have HSl : Hid (S.data.toList = lineT ts) := Lib.hid (by rw [hS])
          have hSs : S.size = (lineT ts).length := by rw [hS]; rfl
          have HBw := Lib.hid hbw
          rw [← hS]
          clear hT hbw hlt hS
          by_cases h96 : 4096 < S.size
          · have g2 : ((S.size : Int) > 4096) := by omega
            clear h96 hSs
            go_wp2_with (go_at_call 6; have HY := HAl.out _ B2.out; (with_reducible refine HY.mono ?_); clear HY; rintro e w3 ⟨rfl, hb⟩; have B3 := Lib.hid (thru B2.out hb); clear hb)
            go_ret
            exact ⟨rfl, B3.out⟩
          · have g2 : ¬ ((S.size : Int) > 4096) := by omega
            obtain ⟨us, hlx2, hmp, hp1, hp2⟩ := blanks_lex HLX.out (by omega)
            have hpp := blanks_parse HLX.out hlx2 hmp hp1 hp2
            obtain ⟨p, at2, f, hp⟩ : ∃ p at2 f, parseT l = (p, at2, f) := ⟨_, _, _, rfl⟩
            obtain ⟨p2, at3, f2, hpq⟩ : ∃ p at2 f, parseT (lineT ts) = (p, at2, f) := ⟨_, _, _, rfl⟩
            rw [hp, hpq] at hpp
            obtain ⟨hf, hsame, hok, hbad⟩ := hpp
            have hf : f2 = f := hf
            subst hf
            have HPa : Hid (∀ w, Calls Tryz.prog 7 #[.string src] w (fun e w' => ∃ n vE vV vP vM, e = .returned (.tuple #[pgV vE vV vP vM, .int .i64 (at2 : Int), .int .i64 (f2 : Int)]) ∧ Below w.heap.size w w' ∧ PgR (fun q => w.heap.size ≤ q ∧ q < w'.heap.size) n w' p vE vV vP vM)) := Lib.hid fun w => by
              have := Parse_any src w
              unfold RetRP at this
              rw [HL.out, hp] at this
              exact this
            have HP2 : Hid (∀ w, Calls Tryz.prog 7 #[.string S] w (fun e w' => ∃ n vE vV vP vM, e = .returned (.tuple #[pgV vE vV vP vM, .int .i64 (at3 : Int), .int .i64 (f2 : Int)]) ∧ Below w.heap.size w w' ∧ PgR (fun q => w.heap.size ≤ q ∧ q < w'.heap.size) n w' p2 vE vV vP vM)) := Lib.hid fun w => by
              have := Parse_any S w
              unfold RetRP at this
              rw [HSl.out, hpq] at this
              exact this
            have HSm2 : Hid (∀ w n m vE vV vP vM uE uV uP uM, PgR (fun b => b < w.heap.size) n w p vE vV vP vM → PgR (fun b => b < w.heap.size) m w p2 uE uV uP uM → Calls Tryz.prog 11 #[pgV vE vV vP vM, pgV uE uV uP uM] w (fun e w' => e = .returned (.bool true) ∧ Below w.heap.size w w')) := Lib.hid fun w n m vE vV vP vM uE uV uP uM h1 h2 => by
              have := same_any (n + m) p p2 vE vV vP vM uE uV uP uM (fun b => b < w.heap.size) w (h1.le (Nat.le_add_right _ _)) (h2.le (Nat.le_add_left _ _)) (fun b hb => hb)
              rw [show samePg p p2 = true from hsame] at this
              exact this
            have hul : us.length = k := by have := congrArg List.length hmp; rw [List.length_map, List.length_map] at this; rw [this, HM.out]
            have HLx2 : Hid (∀ w, Calls Tryz.prog 15 #[.string S] w (fun e w' => ∃ v, e = .returned (.tuple #[v, .int .i64 ((lineT ts).length : Int), .int .i64 ((0 : Nat) : Int)]) ∧ w'.ownsRow w.heap.size 49 4 v us.length (tcells us) ∧ Below w.heap.size w w')) := Lib.hid fun w => by
              have := lex_any S w
              unfold RetL at this
              rw [HSl.out, hlx2] at this
              exact this
            rw [hul] at HLx2
            have HUl := Lib.hid hul
            have HOk : Hid (f2 = 0 → at2 = l.length ∧ at3 = (lineT ts).length) := Lib.hid hok
            have HBad : Hid (f2 ≠ 0 → ∀ k, scanT us at3 k = scanT ts at2 k) := Lib.hid hbad
            have HSs := Lib.hid hSs
            obtain ⟨LN, hLN⟩ : ∃ q, q = (lineT ts).length := ⟨_, rfl⟩
            rw [← hLN] at HLx2
            clear h96 hSs hlx2 hmp hp1 hp2 hp hpq hsame hok hbad hul hLN
            go_upto_region 14 with fail
            go_upto_region 15 with (go_at_call 7; have HY := HPa.out wr; (with_reducible refine HY.mono ?_); clear HY; rintro e w4 ⟨n5, vE, vV, vP, vM, rfl, hb, hx1⟩; obtain ⟨AE5, cE5, rfl, -⟩ := hx1.en.slice; obtain ⟨AV5, cV5, rfl, -⟩ := hx1.va.slice; obtain ⟨AP5, cP5, rfl, -⟩ := hx1.pr.slice; obtain ⟨AM5, mM5, cM5, rfl⟩ := str_form hx1.mn; have X5 := Lib.hid hx1; have H5 := Lib.hid hb; clear hx1 hb)
            obtain ⟨V5, hV⟩ : ∃ q, q = w4.alloc (.cells #[.slice AE5 p.enums.length cE5, .slice AV5 p.vars.length cV5, .slice AP5 p.procs.length cP5, .slice AM5 mM5 cM5] 28) := ⟨_, rfl⟩
            have E5 : Hid (Below w4.heap.size w4 V5) := Lib.hid (by rw [hV]; exact (Below.refl _ _).alloc (Nat.le_refl _) _)
            have G5 : Hid (Blk V5 w4.heap.size 28 #[.slice AE5 p.enums.length cE5, .slice AV5 p.vars.length cV5, .slice AP5 p.procs.length cP5, .slice AM5 mM5 cM5]) := Lib.hid (by rw [hV]; exact Blk.new w4 _ _)
            have K5 : Hid (Below wr.heap.size wr V5) := Lib.hid (thru H5.out E5.out)
            have XB5 : Hid (PgR (fun q => q < V5.heap.size) n5 V5 p (.slice AE5 p.enums.length cE5) (.slice AV5 p.vars.length cV5) (.slice AP5 p.procs.length cP5) (.slice AM5 mM5 cM5)) := Lib.hid ((X5.out.below E5.out (fun q hq => hq.2)).wide (fun q hq => Nat.lt_of_lt_of_le hq.2 E5.out.size))
            rw [← hV]
            clear hV X5 H5 E5
            go_upto_region 16 with (go_at_call 7; have HY := HP2.out V5; (with_reducible refine HY.mono ?_); clear HY; rintro e w5 ⟨n6, vE, vV, vP, vM, rfl, hb, hx1⟩; obtain ⟨AE6, cE6, rfl, -⟩ := hx1.en.slice; obtain ⟨AV6, cV6, rfl, -⟩ := hx1.va.slice; obtain ⟨AP6, cP6, rfl, -⟩ := hx1.pr.slice; obtain ⟨AM6, mM6, cM6, rfl⟩ := str_form hx1.mn; have X6 := Lib.hid hx1; have H6 := Lib.hid hb; clear hx1 hb)
            obtain ⟨V6, hV⟩ : ∃ q, q = w5.alloc (.cells #[.slice AE6 p2.enums.length cE6, .slice AV6 p2.vars.length cV6, .slice AP6 p2.procs.length cP6, .slice AM6 mM6 cM6] 28) := ⟨_, rfl⟩
            have E6 : Hid (Below w5.heap.size w5 V6) := Lib.hid (by rw [hV]; exact (Below.refl _ _).alloc (Nat.le_refl _) _)
            have G6 : Hid (Blk V6 w5.heap.size 28 #[.slice AE6 p2.enums.length cE6, .slice AV6 p2.vars.length cV6, .slice AP6 p2.procs.length cP6, .slice AM6 mM6 cM6]) := Lib.hid (by rw [hV]; exact Blk.new w5 _ _)
            have K6 : Hid (Below V5.heap.size V5 V6) := Lib.hid (thru H6.out E6.out)
            have XB6 : Hid (PgR (fun q => q < V6.heap.size) n6 V6 p2 (.slice AE6 p2.enums.length cE6) (.slice AV6 p2.vars.length cV6) (.slice AP6 p2.procs.length cP6) (.slice AM6 mM6 cM6)) := Lib.hid ((X6.out.below E6.out (fun q hq => hq.2)).wide (fun q hq => Nat.lt_of_lt_of_le hq.2 E6.out.size))
            rw [← hV]
            clear hV X6 H6 E6
            have B6 : Hid (Below W.heap.size W V6) := Lib.hid (thru (thru B2.out K5.out) K6.out)
            have XB7 := Lib.hid ((XB5.out.below K6.out (fun q hq => hq)).wide (P' := fun q => q < V6.heap.size) (fun q hq => Nat.lt_of_lt_of_le hq K6.out.size))
            have G7 := Lib.hid (G5.out.below K6.out G5.out.lt)
            have BW6 : Hid (Below w1.heap.size w1 V6) := Lib.hid (thru (thru HBw.out K5.out) K6.out)
            have g3 : ((f2 : Int) != (f2 : Int)) = false := by simp
            have t0 := G7.out.cell 0
            have t1 := G7.out.cell 1
            have t2 := G7.out.cell 2
            have t3 := G7.out.cell 3
            simp at t0 t1 t2 t3
            have u0 := G6.out.cell 0
            have u1 := G6.out.cell 1
            have u2 := G6.out.cell 2
            have u3 := G6.out.cell 3
            simp at u0 u1 u2 u3
            go_upto_region 18 with (go_at_call 11; have HY := HSm2.out _ _ _ _ _ _ _ _ _ _ _ XB7.out XB6.out; (with_reducible refine HY.mono ?_); clear HY; rintro e w7 ⟨rfl, hb⟩; have B7 := Lib.hid (thru B6.out hb); have BW7 := Lib.hid (thru BW6.out hb); clear hb)
            clear g3
            clear t0 t1 t2 t3
            clear u0 u1 u2 u3
            by_cases h0 : f2 = 0
            · obtain ⟨e1, e2⟩ := HOk.out h0
              have a1 : at2 = src.size := by rw [e1, HSr.out]
              have a2 : at3 = S.size := by rw [e2, HSs.out]
              subst h0 a1 a2
              clear e1 e2
              go_wp2_with (go_at_call 6; have HY := HAl.out _ B7.out; (with_reducible refine HY.mono ?_); clear HY; rintro e w8 ⟨rfl, hb⟩; have B8 := Lib.hid (thru B7.out hb); clear hb)
              go_ret
              exact ⟨rfl, B8.out⟩
            · have g4 : ((f2 : Int) == 0) = false := by simp; exact h0
              have HSc := Lib.hid (HBad.out h0)
              clear h0
              go_upto_region 22 with (go_at_call 15; have HY := HLx2.out w7; (with_reducible refine HY.mono ?_); clear HY; rintro e w8 ⟨v2, rfl, ho, hb⟩; have O8 := Lib.hid ho; have B8 := Lib.hid (thru B7.out hb); have BW8 := Lib.hid (thru BW7.out hb); clear ho hb)
              have hrow2 : ∃ A c, v2 = .slice A k c ∧ k ≤ c ∧ TokR w8 w8.heap.size A us := by
                have h := O8.out
                rw [← HUl.out] at h ⊢
                exact tok_row h
              obtain ⟨A2, c9, rfl, hc9, htr2⟩ := hrow2
              have HC9 := Lib.hid hc9
              have TR2 := Lib.hid htr2
              clear hc9 htr2 O8
              go_upto_region 23 with fail
              go_loopw [15, 16, 94] (fun v15 v16 v94 wr => ∃ i : Nat, v94 = .int .i64 (i : Int) ∧ i ≤ k ∧ v15 = .int .i64 (scanT ts at2 i) ∧ v16 = .int .i64 (scanT us at3 i) ∧ Below w8.heap.size w8 wr) (fun _ _ v94 _ => k - (RowKit.intOf v94).toNat)
              case atStart => exact ⟨0, rfl, Nat.zero_le _, rfl, rfl, Below.refl _ _⟩
              case round =>
                obtain ⟨i, rfl, hi, rfl, rfl, hbw⟩ := hrel
                by_cases hlt : i < k
                · obtain ⟨t, ht⟩ : ∃ t, ts[i]? = some t := ⟨ts[i]'(by rw [HM.out]; exact hlt), List.getElem?_eq_getElem _⟩
                  obtain ⟨u, hu⟩ : ∃ t, us[i]? = some t := ⟨us[i]'(by rw [HUl.out]; exact hlt), List.getElem?_eq_getElem _⟩
                  obtain ⟨g, off, rfl, hg, hcell⟩ := TR.out (by rintro rfl; have := HM.out; simp at this; omega)
                  obtain ⟨g9, off9, rfl, hg9, hcell9⟩ := TR2.out (by rintro rfl; have := HUl.out; simp at this; omega)
                  have q3 := ((thru BW8.out hbw).cell (p := ⟨g, off + (i * 4 + 3), none⟩) hg).trans (hcell _ _ (tcells_at ht).2.2.2)
                  have r3 := (hbw.cell (p := ⟨g9, off9 + (i * 4 + 3), none⟩) hg9).trans (hcell9 _ _ (tcells_at hu).2.2.2)
                  rw [← Nat.add_assoc] at q3 r3
                  have HBi := Lib.hid hbw
                  have hlc : i < c := Nat.lt_of_lt_of_le hlt HC.out
                  have hlc9 : i < c9 := Nat.lt_of_lt_of_le hlt HC9.out
                  have hm4 : k ≤ 4096 := HMl.out
                  have g7 : ((i : Int) < (k : Int)) := by omega
                  obtain ⟨X, hX⟩ : ∃ q, q = scanT ts at2 i := ⟨_, rfl⟩
                  obtain ⟨Y, hY⟩ : ∃ q, q = scanT us at3 i := ⟨_, rfl⟩
                  rw [← hX, ← hY]
                  clear hbw hcell hcell9
                  by_cases ha : t.at_ = at2 <;> by_cases hb : u.at_ = at3
                  · have g5 : ((t.at_ : Int) == (at2 : Int)) = true := by simp; omega
                    have g6 : ((u.at_ : Int) == (at3 : Int)) = true := by simp; omega
                    have HN1 : Hid (scanT ts at2 (i + 1) = (i : Int)) := Lib.hid (by rw [scan_yes ht ha])
                    have HN2 : Hid (scanT us at3 (i + 1) = (i : Int)) := Lib.hid (by rw [scan_yes hu hb])
                    clear ha hb ht hu hX hY
                    go_wp2_with fail
                    go_roundw
                    case rel => exact ⟨i + 1, by go_num, hlt, by rw [HN1.out], by rw [HN2.out], HBi.out⟩
                    case measure => simp [RowKit.intOf]; omega
                  · have g5 : ((t.at_ : Int) == (at2 : Int)) = true := by simp; omega
                    have g6 : ((u.at_ : Int) == (at3 : Int)) = false := by simp; omega
                    have HN1 : Hid (scanT ts at2 (i + 1) = (i : Int)) := Lib.hid (by rw [scan_yes ht ha])
                    have HN2 : Hid (scanT us at3 (i + 1) = Y) := Lib.hid (by rw [scan_no hu hb]; exact hY.symm)
                    clear ha hb ht hu hX hY
                    go_wp2_with fail
                    go_roundw
                    case rel => exact ⟨i + 1, by go_num, hlt, by rw [HN1.out], by rw [HN2.out], HBi.out⟩
                    case measure => simp [RowKit.intOf]; omega
                  · have g5 : ((t.at_ : Int) == (at2 : Int)) = false := by simp; omega
                    have g6 : ((u.at_ : Int) == (at3 : Int)) = true := by simp; omega
                    have HN1 : Hid (scanT ts at2 (i + 1) = X) := Lib.hid (by rw [scan_no ht ha]; exact hX.symm)
                    have HN2 : Hid (scanT us at3 (i + 1) = (i : Int)) := Lib.hid (by rw [scan_yes hu hb])
                    clear ha hb ht hu hX hY
                    go_wp2_with fail
                    go_roundw
                    case rel => exact ⟨i + 1, by go_num, hlt, by rw [HN1.out], by rw [HN2.out], HBi.out⟩
                    case measure => simp [RowKit.intOf]; omega
                  · have g5 : ((t.at_ : Int) == (at2 : Int)) = false := by simp; omega
                    have g6 : ((u.at_ : Int) == (at3 : Int)) = false := by simp; omega
                    have HN1 : Hid (scanT ts at2 (i + 1) = X) := Lib.hid (by rw [scan_no ht ha]; exact hX.symm)
                    have HN2 : Hid (scanT us at3 (i + 1) = Y) := Lib.hid (by rw [scan_no hu hb]; exact hY.symm)
                    clear ha hb ht hu hX hY
                    go_wp2_with fail
                    go_roundw
                    case rel => exact ⟨i + 1, by go_num, hlt, by rw [HN1.out], by rw [HN2.out], HBi.out⟩
                    case measure => simp [RowKit.intOf]; omega
                · have he : i = k := by omega
                  subst he
                  have B9 : Hid (Below W.heap.size W wr) := Lib.hid (thru B8.out hbw)
                  rw [HSc.out i]
                  clear hbw hlt HSc
                  go_wp2_with (go_at_call 6; have HY := HAl.out _ B9.out; (with_reducible refine HY.mono ?_); clear HY; rintro e w10 ⟨rfl, hb⟩; have B10 := Lib.hid (thru B9.out hb); clear hb)
                  go_ret
                  exact ⟨rfl, B10.out⟩
    · have g1 : ((no : Int) != 0) = true := by simp; exact hno
      have HT := Lib.hid ht
      clear hl hlx hno ht
      go_enter Tryz.func5, Tryz.ntmps5
      go_upto_region 3 with fail
      go_wp2_with (first
        | (go_at_call 15; have HY := HLx.out W; (with_reducible refine HY.mono ?_); clear HY; rintro e w1 ⟨v, rfl, ho, hb⟩; have B1 := Lib.hid hb; clear ho hb)
        | (go_at_call 6; have HY := HAl.out _ B1.out; (with_reducible refine HY.mono ?_); clear HY; rintro e w2 ⟨rfl, hb⟩; have B2 := Lib.hid (thru B1.out hb); clear hb))
      go_ret
      exact ⟨rfl, B2.out⟩
end
end Go.Proofs.YteaongdlbleehaaGreatDoor
