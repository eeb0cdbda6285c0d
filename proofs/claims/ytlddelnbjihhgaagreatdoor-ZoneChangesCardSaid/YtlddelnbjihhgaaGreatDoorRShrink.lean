/- The contract of the document's shrink: one round, or the bottom. -/
import Derived.Test.YtlddelnbjihhgaaGreatDoorRBase
import Derived.Deep.LoopGhost
import Derived.BigQuiet
namespace Go.Proofs.YtlddelnbjihhgaaGreatDoor
open Go.RowKit
attribute [local go_sem ↓] Go.wp_at_zero Go.wp_at_succ

theorem rdrewN_below (w : World) : ∀ q, Below w.heap.size w (w.drewN q)
  | 0 => Below.refl _ _
  | q + 1 => (rdrewN_below w q).trans (Below.refl _ _).drew

theorem row_pos {w : World} {base : Nat} {e : TypeId} {size n : Nat} {v : Value} {xs : List Value} (h : w.ownsRow base e size v n xs) (h0 : 0 < n) : ∃ g c, v = .slice (some ⟨g, 0, none⟩) n c ∧ n ≤ c := by
  rcases h.2 with ⟨_, h1⟩ | ⟨g, cap, cur, rfl, _, _, hc, _⟩
  · omega
  · exact ⟨g, cap, rfl, hc⟩
theorem ints_one (V : List Int) : ∀ u ∈ V.map (Value.int .i64), u.oneCell' = true := fun u hu => by
  obtain ⟨x, -, rfl⟩ := List.mem_map.1 hu
  rfl
/-- While shrink goes: both boxes, the zone's row, the new row. -/
structure SH (W : World) (m g cap go co : Nat) (D E : Mat) (wr : World) : Prop where
  zb : Duo wr W.heap.size 24 (.int .i64 ((m : Int) - 1)) (.slice (some ⟨g, 0, none⟩) (m * m) cap)
  rb : Duo wr (W.heap.size + 1) 24 (.int .i64 0) (.slice none 0 0)
  rowD : wr.ownsRow 0 3 1 (.slice (some ⟨g, 0, none⟩) (m * m) cap) (m * m) ((flatL m D).map (Value.int .i64))
  rowE : wr.ownsRow (W.heap.size + 2) 3 1 (.slice (some ⟨go, 0, none⟩) (m * m) co) (m * m) ((flatL m E).map (Value.int .i64))
  old : g < W.heap.size
  low : Below W.heap.size W wr
section
variable {W wr W1 : World} {m g cap go co i j : Nat} {D E E' : Mat}
theorem SH.below (h : SH W m g cap go co D E wr) (hb : Below wr.heap.size wr W1) : SH W m g cap go co D E W1 :=
  ⟨h.zb.below hb, h.rb.below hb, own_kept_below h.rowD hb, own_kept_below h.rowE hb, h.old, h.low.trans (hb.mono h.low.size)⟩
theorem SH.congr (h : SH W m g cap go co D E wr) (he : Same m E E') : SH W m g cap go co D E' wr :=
  ⟨h.zb, h.rb, h.rowD, by rw [← flat_congr he]; exact h.rowE, h.old, h.low⟩
theorem SH.set (h : SH W m g cap go co D E wr) (hj : j < m) (x : Int) : SH W m g cap go co D (upd E i j x) (wr.setCell ⟨go, i * m + j, none⟩ (.int .i64 x)) := by
  have hgo := (h.rowE.lt go rfl).1
  obtain ⟨hs, hg⟩ := h.rowE.stored (i * m + j) (.int .i64 x)
  have hne : g ≠ go := by have := h.old; omega
  refine ⟨h.zb.other (by show W.heap.size ≠ go; omega) _, h.rb.other (by show W.heap.size + 1 ≠ go; omega) _, h.rowD.kept hg (.inr (by simp [Value.ownBlock]; omega)), ?_, h.old, h.low.setCell (p := ⟨go, _, none⟩) (by show W.heap.size ≤ go; omega) _⟩
  rw [← flat_set E hj x, List.map_set]
  exact hs
theorem SH.dAt (h : SH W m g cap go co D E wr) (hi : i < m) (hj : j < m) : wr.cell? ⟨g, i * m + j, none⟩ = some (.int .i64 (D i j)) ∧ g < wr.heap.size :=
  ⟨(h.rowD.cellAt _ (by have := spot_lt hi hj; omega)).trans (by rw [List.getElem?_map, flat_at D hi hj]; rfl), (h.rowD.lt g rfl).2⟩
theorem SH.eAt (h : SH W m g cap go co D E wr) (hi : i < m) (hj : j < m) : wr.cell? ⟨go, i * m + j, none⟩ = some (.int .i64 (E i j)) ∧ wr.frozen? ⟨go, i * m + j, none⟩ = false ∧ go < wr.heap.size :=
  ⟨(h.rowE.cellAt _ (by have := spot_lt hi hj; omega)).trans (by rw [List.getElem?_map, flat_at E hi hj]; rfl), h.rowE.frozenAt _, (h.rowE.lt go rfl).2⟩
theorem SH.cells (h : SH W m g cap go co D E wr) : (wr.cell? ⟨W.heap.size, 0, none⟩ = some (.int .i64 ((m : Int) - 1)) ∧ wr.cell? ⟨W.heap.size, 1, none⟩ = some (.slice (some ⟨g, 0, none⟩) (m * m) cap)) ∧ W.heap.size < wr.heap.size := ⟨⟨h.zb.cell0, h.zb.cell1⟩, h.zb.lt⟩
theorem SH.res (h : SH W m g cap go co D E wr) : (wr.cell? ⟨W.heap.size + 1, 0, none⟩ = some (.int .i64 0) ∧ wr.cell? ⟨W.heap.size + 1, 1, none⟩ = some (.slice none 0 0)) ∧ wr.frozen? ⟨W.heap.size + 1, 0, none⟩ = false ∧ wr.frozen? ⟨W.heap.size + 1, 1, none⟩ = false ∧ W.heap.size + 1 < wr.heap.size := ⟨⟨h.rb.cell0, h.rb.cell1⟩, h.rb.frozen0, h.rb.frozen1, h.rb.lt⟩
end
/-- What shrink returns. -/
def RetShr (W : World) (m : Nat) (D : Mat) (e : Ending) (w' : World) : Prop :=
  (Fits m (shr m D) ∧ ∃ go co, e = .returned (zoneV ((m : Int) - 1) (some ⟨go, 0, none⟩) (m * m) co) ∧ w'.ownsRow W.heap.size 3 1 (.slice (some ⟨go, 0, none⟩) (m * m) co) (m * m) ((flatL m (shr m D)).map (Value.int .i64)) ∧ Below W.heap.size W w') ∨
  (¬ Fits m (shr m D) ∧ e = .returned (zoneV ((m : Int) - 1) none 0 0) ∧ Below W.heap.size W w')
/-- The result's box is written. -/
theorem res_put {W wr : World} {b : Nat} {x y : Value} (h : Duo wr b 24 x y) (hb : Below W.heap.size W wr) (hl : W.heap.size ≤ b) (u v : Value) : Duo ((wr.setCell ⟨b, 0, none⟩ u).setCell ⟨b, 1, none⟩ v) b 24 u v ∧ Below W.heap.size W ((wr.setCell ⟨b, 0, none⟩ u).setCell ⟨b, 1, none⟩ v) :=
  ⟨(h.set0 u).set1 v, (hb.setCell (p := ⟨b, 0, none⟩) hl u).setCell (p := ⟨b, 1, none⟩) hl v⟩
theorem row_put {wr : World} {b base : Nat} {x y : Value} {v0 : Value} {n : Nat} {xs : List Value} (h : Duo wr b 24 x y) (hr : wr.ownsRow base 3 1 v0 n xs) (u v : Value) : ((wr.setCell ⟨b, 0, none⟩ u).setCell ⟨b, 1, none⟩ v).ownsRow base 3 1 v0 n xs := by
  have h1 := hr.kept (duo_grown_setCell wr ⟨b, 0, none⟩ u) (.inr (h.not_row (by decide) hr).symm)
  exact h1.kept (duo_grown_setCell _ ⟨b, 1, none⟩ v) (.inr ((h.set0 u).not_row (by decide) h1).symm)
section
variable {W : World} {m g cap : Nat} {D : Mat}
set_option maxRecDepth 100000 in
set_option maxHeartbeats 6400000 in
theorem rshrink_any (h0 : 0 < m) (h7 : m ≤ 7) (hin : InR m D) (hrow : W.ownsRow 0 3 1 (.slice (some ⟨g, 0, none⟩) (m * m) cap) (m * m) ((flatL m D).map (Value.int .i64))) :
    Calls Tryz.prog 78 #[zoneV ((m : Int) - 1) (some ⟨g, 0, none⟩) (m * m) cap] W (RetShr W m D) := by
  obtain ⟨i0, hi, hz0, hz1, hz2⟩ := info_parts zinfo3
  have hmm : 0 < m * m := Nat.mul_pos h0 h0
  have hmm2 : m * m ≤ 49 := Nat.mul_le_mul h7 h7
  have hb := (zboxed W (.cells #[.int .i64 ((m : Int) - 1), .slice (some ⟨g, 0, none⟩) (m * m) cap] 24)).trans ((zboxed (W.alloc (.cells #[.int .i64 ((m : Int) - 1), .slice (some ⟨g, 0, none⟩) (m * m) cap] 24)) (.cells #[.int .i64 0, .slice none 0 0] 24)).mono (by simp))
  have k0 := (Duo.new W 24 (.int .i64 ((m : Int) - 1)) (.slice (some ⟨g, 0, none⟩) (m * m) cap)).alloc (.cells #[.int .i64 0, .slice none 0 0] 24)
  have k1 := Duo.new (W.alloc (.cells #[.int .i64 ((m : Int) - 1), .slice (some ⟨g, 0, none⟩) (m * m) cap] 24)) 24 (.int .i64 0) (.slice none 0 0)
  rw [World.size_alloc] at k1
  obtain ⟨W2, hW2⟩ : ∃ W2, (W.alloc (.cells #[.int .i64 ((m : Int) - 1), .slice (some ⟨g, 0, none⟩) (m * m) cap] 24)).alloc (.cells #[.int .i64 0, .slice none 0 0] 24) = W2 := ⟨_, rfl⟩
  have hs2 : W2.heap.size = W.heap.size + 2 := by rw [← hW2]; simp
  rw [hW2] at hb k0 k1
  have hgl : g < W.heap.size := (hrow.lt g rfl).2
  have c0 := k0.cell0
  have c1 := k0.cell1
  have c2 := k0.lt
  have HR2 := Lib.hid (own_kept_below hrow hb)
  have hlit := World.ownsRow_lit (base := W.heap.size + 2) (e := 3) (size := 1) W2 #[] 0 (by omega) (by unfold maxLen; omega) rfl
  rw [hs2] at hlit
  have HLit := Lib.hid hlit
  clear hlit
  have HB3 := Lib.hid (zboxed W2 (.cells #[] 3))
  have HK := Lib.hid (And.intro k0 (And.intro k1 (And.intro hgl hb)))
  have HLen : Hid (((flatL m D).map (Value.int .i64)).length = m * m * 1 ∧ (0 + m * m ≤ maxLen ∧ (0 + m * m) * 8 ≤ 140737488355328) ∧ W.heap.size + 2 ≤ (W2.alloc (.cells #[] 3)).heap.size) := Lib.hid (by rw [List.length_map, flat_len, World.size_alloc]; unfold maxLen; omega)
  have HIn := Lib.hid hin
  have HMm := Lib.hid hmm
  clear hrow hb k0 k1 hin hmm
  go_enter Tryz.func78, Tryz.ntmps78
  go_wp2_with (first
    | (at_builtin; refine wpList_append_rows rfl _ _ 22 rfl (W.heap.size + 2) 3 i0 (.int .i64 0) 1 8 Tryz.underlying22 hi hz0 hz1 hz2 rfl (by decide) _ _ _ rfl HLit.out _ (m * m) ((flatL m D).map (Value.int .i64)) rfl (rowAt_own (own_kept_below HR2.out HB3.out)) HLen.out.1 (ints_one _) HLen.out.2.1.1 HLen.out.2.1.2 HLen.out.2.2 ?_; intro v4 w4 ho hg hv; have HO := Lib.hid (And.intro ho (And.intro hg hv)); clear ho hg hv))
  have hg4 : (W2.alloc (.cells #[] 3)).grownBy w4 (some (W.heap.size + 2)) := HO.out.2.1
  have ho4 := HO.out.1
  rw [Nat.zero_add, List.nil_append] at ho4
  obtain ⟨go, co, rfl, hco⟩ := row_pos ho4 HMm.out
  have HS4 : Hid (SH W m g cap go co D D w4) := Lib.hid ⟨((HK.out.1.alloc _).kept hg4 (by simp)), ((HK.out.2.1.alloc _).kept hg4 (by simp)), (own_kept_below HR2.out HB3.out).kept hg4 (.inr (by simp [Value.ownBlock]; omega)), ho4, hgl, (HK.out.2.2.2.trans (HB3.out.mono (by omega))).grown hg4 (by rw [World.size_alloc]; omega) fun k hk => by injection hk with hk; omega⟩
  have hcap : m * m ≤ cap := by
    obtain ⟨g', c', e, hc⟩ := row_pos HR2.out HMm.out
    injection e with e1 e2 e3
    omega
  clear hg4 ho4 HO HK HLen HLit HB3 HR2 hW2 hs2 c0 c1 c2 hi hz0 hz1 hz2
  go_loopg [5] m (fun gk t5 wr => ∃ i : Nat, i + gk = m ∧ t5 = .int .i64 (i : Int) ∧ SH W m g cap go co D (stg m D i 0 0) wr ∧ FitUp m (shr m D) i 0)
  case atStart => exact ⟨0, by omega, rfl, by rw [stg_zero]; exact HS4.out, fitUp_zero _ _⟩
  case round =>
    rename Nat => g0
    obtain ⟨i, hi, rfl, hS, hF⟩ := hrel
    have HI := Lib.hid hi
    have HS := Lib.hid hS
    have HF := Lib.hid hF
    clear hi hS hF HS4
    by_cases him : i < m
    · go_wp2_with fail
      go_loopg [6] m (fun gk t6 wr => ∃ j : Nat, j + gk = m ∧ t6 = .int .i64 (j : Int) ∧ SH W m g cap go co D (stg m D i j 0) wr ∧ FitUp m (shr m D) i j)
      case atStart => exact ⟨0, by omega, rfl, HS.out, HF.out⟩
      case round =>
        rename Nat => g1
        obtain ⟨j, hj, rfl, hS, hF⟩ := hrel
        have HJ := Lib.hid hj
        have HS := Lib.hid hS
        have HF := Lib.hid hF
        clear hj hS hF
        by_cases hjm : j < m
        · go_wp2_with fail
          go_loopg [7] m (fun gk t7 wr => ∃ k : Nat, k + gk = m ∧ t7 = .int .i64 (k : Int) ∧ SH W m g cap go co D (stg m D i j k) wr)
          case atStart => exact ⟨0, by omega, rfl, HS.out⟩
          case round =>
            rename Nat => g2
            obtain ⟨k, hk, rfl, hS⟩ := hrel
            have HKk := Lib.hid hk
            have HS := Lib.hid hS
            clear hk hS
            obtain ⟨e1, e2, e3, e4⟩ := mul_idx h7 him hjm
            obtain ⟨c5, c6, c7⟩ := HS.out.eAt him hjm
            obtain ⟨⟨c0, c1⟩, c2⟩ := HS.out.cells
            rw [stg_at] at c5
            obtain ⟨tij, htij⟩ : ∃ t, i * m + j = t := ⟨_, rfl⟩
            rw [htij] at e1 e4 c5 c6
            have HTij := Lib.hid htij
            clear htij
            by_cases hkm : k < m
            · obtain ⟨b1, b2, b3, b4⟩ := mul_idx h7 him hkm
              obtain ⟨d1, d2, d3, d4⟩ := mul_idx h7 hkm hjm
              obtain ⟨c8, c9⟩ := HS.out.dAt him hkm
              obtain ⟨c10, -⟩ := HS.out.dAt hkm hjm
              obtain ⟨tik, htik⟩ : ∃ t, i * m + k = t := ⟨_, rfl⟩
              obtain ⟨tkj, htkj⟩ : ∃ t, k * m + j = t := ⟨_, rfl⟩
              rw [htik] at b1 b4 c8
              rw [htkj] at d1 d4 c10
              have hx := HIn.out i k him hkm
              have hy := HIn.out k j hkm hjm
              have he := least_in HIn.out him hjm k (by omega)
              have HLe : Hid (least D i j (k + 1) = min (least D i j k) (D i k + D k j)) := Lib.hid rfl
              obtain ⟨x, hxe⟩ : ∃ x, D i k = x := ⟨_, rfl⟩
              obtain ⟨y, hye⟩ : ∃ y, D k j = y := ⟨_, rfl⟩
              obtain ⟨l, hle⟩ : ∃ l, least D i j k = l := ⟨_, rfl⟩
              rw [hxe] at hx c8 HLe
              rw [hye] at hy c10 HLe
              rw [hle] at he c5 HLe
              have HLl := Lib.hid hle
              clear hxe hye hle htik htkj
              go_wp2_with fail
              go_quiet (fail)
              obtain ⟨wa, hwa⟩ : ∃ wa, wr.drewN nq = wa := ⟨_, rfl⟩
              have HSa := Lib.hid (HS.out.below (rdrewN_below wr nq))
              rw [hwa] at HSa ⊢
              clear hwa c0 c1 c2 c5 c6 c7 c8 c9 c10
              obtain ⟨c5, c6, c7⟩ := HSa.out.eAt him hjm
              rw [stg_at, HTij.out, HLl.out] at c5
              rw [HTij.out] at c6
              by_cases hlt : x + y < l
              · have hd : decide (x + y < l) = true := decide_eq_true hlt
                go_wp2_with fail
                have hk := HKk.out
                go_roundg (g2 - 1)
                case measure => omega
                case rel => exact ⟨k + 1, by omega, by simp, by
                  have h := HSa.out.set (i := i) (j := j) hjm (x + y)
                  rw [stg_step, HLe.out, show min l (x + y) = x + y by omega]
                  rw [HTij.out] at h
                  exact h⟩
              · have hd : decide (x + y < l) = false := decide_eq_false hlt
                go_wp2_with fail
                have hk := HKk.out
                go_roundg (g2 - 1)
                case measure => omega
                case rel => exact ⟨k + 1, by omega, by simp, by
                  rw [stg_same m D i j k (by rw [HLe.out, HLl.out]; omega)]
                  exact HSa.out⟩
            · have hke : k = m := by have := HKk.out; omega
              subst hke
              have HSn : Hid (SH W k g cap go co D (stg k D i (j + 1) 0) wr) := Lib.hid (by rw [← stg_next]; exact HS.out)
              have HFx : Hid (-far i j ≤ least D i j k → FitUp k (shr k D) i (j + 1)) := Lib.hid fun hx => fitUp_step HF.out hx
              have HNo : Hid (¬ -far i j ≤ least D i j k → ¬ Fits k (shr k D)) := Lib.hid fun hx hf => hx (hf i j him hjm)
              have hle2 := least_in HIn.out him hjm k (Nat.le_refl _)
              have hff := far_nonneg i j
              have HMo := Lib.hid (fun W => rmost_any i j W)
              obtain ⟨s, hs⟩ : ∃ s, least D i j k = s := ⟨_, rfl⟩
              obtain ⟨f, hf⟩ : ∃ f, far i j = f := ⟨_, rfl⟩
              have c5' := c5
              rw [hs] at HFx HNo hle2 c5
              rw [hf] at HFx HNo hff HMo
              have K1 : Hid (go < wr.drew.heap.size ∧ wr.drew.cell? ⟨go, tij, none⟩ = some (.int .i64 s)) := Lib.hid ⟨c7, by rw [← hs]; exact c5'⟩
              clear hs hf
              have e5 : (tij : Int) < ((k * k : Nat) : Int) := by omega
              have e6 : (tij : Int) < (k : Int) * (k : Int) := by rw [← Int.natCast_mul]; exact e5
              have hw1 : IntKind.i64.wrap ((i : Int) * (k : Int)) = (i : Int) * (k : Int) := IntWalk.i64_in _ (by omega)
              have hw2 : IntKind.i64.wrap ((i : Int) * (k : Int) + (j : Int)) = (tij : Int) := by rw [e1]; exact IntWalk.i64_in _ (by omega)
              have hw3 : IntKind.i64.wrap (tij : Int) = (tij : Int) := IntWalk.i64_in _ (by omega)
              have hw4 : IntKind.i64.wrap (-f) = -f := IntWalk.i64_in _ (by omega)
              by_cases hlt : s < -f
              · have hd : decide (s < -f) = true := decide_eq_true hlt
                have hd2 : decide (s < 0 - f) = true := decide_eq_true (by omega)
                go_wp2_with fail
                go_region_held3 (fun w => go < w.heap.size ∧ w.cell? ⟨go, tij, none⟩ = some (.int .i64 s))
                  (first | (exact K1.out))
                  (first
                    | (go_at_call 77; ((with_reducible refine (HMo.out _).mono ?_); rintro e w1 ⟨rfl, rfl⟩)))
                have HSd := Lib.hid (HS.out.below (Below.refl wr.heap.size wr).drew)
                obtain ⟨⟨c0, c1⟩, c2⟩ := HSd.out.cells
                have HBt : Hid (∀ W, Calls Tryz.prog 24 #[.int .i64 ((k : Int) - 1)] W (RetBot ((k : Int) - 1) W)) := Lib.hid fun W => by
                  have h := rbottom_any ((k : Int) - 1) W
                  unfold botN at h
                  rw [if_pos ((mayB_iff _).2 (by omega))] at h
                  exact h
                go_wp2_with (go_at_call 24; ((with_reducible refine (HBt.out _).mono ?_); rintro e w6 ⟨rfl, hb6⟩); have HS6 := Lib.hid (HSd.out.below hb6); clear hb6; obtain ⟨⟨r0, r1⟩, r2, r3, r4⟩ := HS6.out.res)
                have hp := res_put HS6.out.rb HS6.out.low (by omega) (.int .i64 ((k : Int) - 1)) (.slice none 0 0)
                have q0 := hp.1.cell0
                have q1 := hp.1.cell1
                exact bodyPost_ret (v := zoneV ((k : Int) - 1) none 0 0) (by simp [results, Tryz.results78, go_sem, q0, q1]) rfl (.inr ⟨HNo.out (by omega), rfl, hp.2⟩)
              · have hd : decide (s < -f) = false := decide_eq_false hlt
                have hd2 : decide (s < 0 - f) = false := decide_eq_false (by omega)
                go_wp2_with fail
                go_region_held3 (fun w => go < w.heap.size ∧ w.cell? ⟨go, tij, none⟩ = some (.int .i64 s))
                  (first | (exact K1.out))
                  (first
                    | (go_at_call 77; ((with_reducible refine (HMo.out _).mono ?_); rintro e w1 ⟨rfl, rfl⟩)))
                go_wp2_with fail
                have hj := HJ.out
                go_roundg (g1 - 1)
                case measure => omega
                case rel => exact ⟨j + 1, by omega, by simp, HSn.out.below (Below.refl _ _).drew, HFx.out (by omega)⟩
        · have hje : j = m := by have := HJ.out; omega
          subst hje
          go_wp2_with fail
          have hi := HI.out
          go_roundg (g0 - 1)
          case measure => omega
          case rel => exact ⟨i + 1, by omega, by simp, HS.out.congr (stg_row _ _ _), fitUp_row HF.out⟩
    · have hie : i = m := by have := HI.out; omega
      subst hie
      obtain ⟨⟨c0, c1⟩, c2⟩ := HS.out.cells
      obtain ⟨⟨r0, r1⟩, r2, r3, r4⟩ := HS.out.res
      go_wp2_with fail
      have hp := res_put HS.out.rb HS.out.low (by omega) (.int .i64 ((i : Int) - 1)) (.slice (some ⟨go, 0, none⟩) (i * i) co)
      have q0 := hp.1.cell0
      have q1 := hp.1.cell1
      have hr := row_put HS.out.rb HS.out.rowE (.int .i64 ((i : Int) - 1)) (.slice (some ⟨go, 0, none⟩) (i * i) co)
      rw [flat_congr (stg_all i D)] at hr
      exact bodyPost_ret (v := zoneV ((i : Int) - 1) (some ⟨go, 0, none⟩) (i * i) co) (by simp [results, Tryz.results78, go_sem, q0, q1]) rfl (.inl ⟨fitUp_all HF.out, go, co, rfl, own_lower hr (by omega), hp.2⟩)
end
end Go.Proofs.YtlddelnbjihhgaaGreatDoor
