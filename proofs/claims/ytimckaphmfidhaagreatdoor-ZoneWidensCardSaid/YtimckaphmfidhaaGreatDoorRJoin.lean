/- The contracts of the document's Meet (a zone has no point) and Join, of right zones of one N; and the law's same. -/
import Derived.Test.YtimckaphmfidhaaGreatDoorRMeet
namespace Go.Proofs.YtimckaphmfidhaaGreatDoor
open Go.RowKit
attribute [local go_sem ↓] Go.wp_at_zero Go.wp_at_succ

/-- Three boxes of the document's zones. -/
theorem three_boxes_r (w : World) (a a' b b' c c' : Value) : ∃ W2, ((w.alloc (.cells #[a, a'] 24)).alloc (.cells #[b, b'] 24)).alloc (.cells #[c, c'] 24) = W2 ∧ Duo W2 w.heap.size 24 a a' ∧ Duo W2 (w.heap.size + 1) 24 b b' ∧ Duo W2 (w.heap.size + 2) 24 c c' ∧ Below w.heap.size w W2 ∧ W2.heap.size = w.heap.size + 3 := by
  obtain ⟨W1, h1, k0, k1, hb, hs⟩ := two_boxes_r w a a' b b'
  have k2 := Duo.new W1 24 c c'
  rw [hs] at k2
  exact ⟨W1.alloc (.cells #[c, c'] 24), by rw [h1], k0.alloc _, k1.alloc _, k2, hb.trans ((zboxed W1 _).mono hb.size), by rw [World.size_alloc, hs]⟩
/-- A right zone is handed back, old or new. -/
def RetO (w : World) (m : Nat) (R : Option Mat) (e : Ending) (w' : World) : Prop := ∃ A c base, e = .returned (zoneV ((m : Int) - 1) A (rlen m R) c) ∧ ZRes w' base m R (zoneV ((m : Int) - 1) A (rlen m R) c) ∧ Below w.heap.size w w'
section
variable {w : World} {m : Nat} {A B : Option Addr} {ba bb ca cb : Nat} {Ra Rb : Option Mat}
set_option maxRecDepth 100000 in
set_option maxHeartbeats 3200000 in
theorem rmeet_none (h0 : 0 < m) (h7 : m ≤ 7) (hn : Ra = none ∨ (Ra ≠ none ∧ Rb = none)) :
    Calls Tryz.prog 62 #[zoneV ((m : Int) - 1) A (rlen m Ra) ca, zoneV ((m : Int) - 1) B (rlen m Rb) cb] w (RetC w m none) := by
  obtain ⟨W3, hW3, k0, k1, k2, hb3, hs3⟩ := three_boxes_r w (.int .i64 ((m : Int) - 1)) (.slice A (rlen m Ra) ca) (.int .i64 ((m : Int) - 1)) (.slice B (rlen m Rb) cb) (.int .i64 0) (.slice none 0 0)
  have c0 := k0.cell0
  have c1 := k0.cell1
  have c2 := k0.lt
  have c3 := k1.cell0
  have c4 := k1.cell1
  have c5 := k1.lt
  have HB := Lib.hid hb3
  have HK := Lib.hid k2
  have HBt : Hid (∀ W, Calls Tryz.prog 12 #[.int .i64 ((m : Int) - 1)] W (RetBot ((m : Int) - 1) W)) := Lib.hid fun W => by
    have h := rbottom_any ((m : Int) - 1) W
    unfold botN at h
    rw [if_pos ((mayB_iff _).2 (by omega))] at h
    exact h
  rcases hn with rfl | ⟨hn, rfl⟩
  · have e0 : rlen m (none : Option Mat) = 0 := rfl
    rw [e0] at hW3 c1
    rw [e0]
    clear hb3 k0 k1 k2 h0 h7
    go_enter Tryz.func62, Tryz.ntmps62
    go_wp2_with (go_at_call 12; ((with_reducible refine (HBt.out _).mono ?_); rintro e w6 ⟨rfl, hb6⟩); have K6 := Lib.hid (HK.out.below hb6); have HB6 := Lib.hid (HB.out.trans (hb6.mono HB.out.size)); have r0 := K6.out.cell0; have r1 := K6.out.cell1; have r2 := K6.out.frozen0; have r3 := K6.out.frozen1; have r4 := K6.out.lt; clear hb6)
    have hp := res_put K6.out HB6.out (by omega) (.int .i64 ((m : Int) - 1)) (.slice none 0 0)
    have y0 := hp.1.cell0
    have y1 := hp.1.cell1
    exact bodyPost_ret (v := zoneV ((m : Int) - 1) none 0 0) (by simp [results, Tryz.results62, go_sem, y0, y1]) rfl ⟨none, 0, rfl, rfl, hp.2⟩
  · obtain ⟨C, rfl⟩ : ∃ C, Ra = some C := by cases Ra with
      | none => exact absurd rfl hn
      | some C => exact ⟨C, rfl⟩
    have e0 : rlen m (none : Option Mat) = 0 := rfl
    have e1 : rlen m (some C) = m * m := rfl
    rw [e0, e1] at hW3
    rw [e0] at c4
    rw [e1] at c1
    rw [e0, e1]
    have q0 : (((m * m : Nat) : Int) == 0) = false := by have := Nat.mul_pos h0 h0; simp; omega
    have q1 : decide (m * m = 0) = false := decide_eq_false (by have := Nat.mul_pos h0 h0; omega)
    have q3 : ((m : Int) * (m : Int) == 0) = false := by rw [← Int.natCast_mul]; exact q0
    have q4 : decide ((m : Int) * (m : Int) = 0) = false := by rw [← Int.natCast_mul]; exact decide_eq_false (by have := Nat.mul_pos h0 h0; omega)
    clear hb3 k0 k1 k2 h0 h7 hn
    go_enter Tryz.func62, Tryz.ntmps62
    go_wp2_with (go_at_call 12; ((with_reducible refine (HBt.out _).mono ?_); rintro e w6 ⟨rfl, hb6⟩); have K6 := Lib.hid (HK.out.below hb6); have HB6 := Lib.hid (HB.out.trans (hb6.mono HB.out.size)); have r0 := K6.out.cell0; have r1 := K6.out.cell1; have r2 := K6.out.frozen0; have r3 := K6.out.frozen1; have r4 := K6.out.lt; clear hb6)
    have hp := res_put K6.out HB6.out (by omega) (.int .i64 ((m : Int) - 1)) (.slice none 0 0)
    have y0 := hp.1.cell0
    have y1 := hp.1.cell1
    exact bodyPost_ret (v := zoneV ((m : Int) - 1) none 0 0) (by simp [results, Tryz.results62, go_sem, y0, y1]) rfl ⟨none, 0, rfl, rfl, hp.2⟩
theorem rmeet_any (h0 : 0 < m) (h7 : m ≤ 7) (ha : ZRes w ba m Ra (zoneV ((m : Int) - 1) A (rlen m Ra) ca)) (hb : ZRes w bb m Rb (zoneV ((m : Int) - 1) B (rlen m Rb) cb)) :
    Calls Tryz.prog 62 #[zoneV ((m : Int) - 1) A (rlen m Ra) ca, zoneV ((m : Int) - 1) B (rlen m Rb) cb] w (RetC w m (mtO m m Ra Rb)) := by
  unfold mtO
  rw [if_pos rfl]
  cases Ra with
  | none => exact rmeet_none h0 h7 (.inl rfl)
  | some C =>
    cases Rb with
    | none => exact rmeet_none h0 h7 (.inr ⟨by simp, rfl⟩)
    | some D => exact rmeet_pts h0 h7 ha hb
set_option maxRecDepth 100000 in
set_option maxHeartbeats 1600000 in
theorem rjoin_none (hb : ZRes w bb m Rb (zoneV ((m : Int) - 1) B (rlen m Rb) cb)) :
    Calls Tryz.prog 61 #[zoneV ((m : Int) - 1) A (rlen m none) ca, zoneV ((m : Int) - 1) B (rlen m Rb) cb] w (RetO w m Rb) := by
  have e0 : rlen m (none : Option Mat) = 0 := rfl
  rw [e0]
  obtain ⟨W3, hW3, k0, k1, k2, hb3, hs3⟩ := three_boxes_r w (.int .i64 ((m : Int) - 1)) (.slice A 0 ca) (.int .i64 ((m : Int) - 1)) (.slice B (rlen m Rb) cb) (.int .i64 0) (.slice none 0 0)
  have hz := hb.below hb3
  have c0 := k0.cell0
  have c1 := k0.cell1
  have c2 := k0.lt
  have c3 := k1.cell0
  have c4 := k1.cell1
  have c5 := k1.lt
  have c6 := k2.cell0
  have c7 := k2.cell1
  have c8 := k2.frozen0
  have c9 := k2.frozen1
  have c10 := k2.lt
  have HP := Lib.hid (res_put k2 hb3 (by omega) (.int .i64 ((m : Int) - 1)) (.slice B (rlen m Rb) cb))
  have HZ := Lib.hid (zres_put k2 hz (.int .i64 ((m : Int) - 1)) (.slice B (rlen m Rb) cb))
  clear hb hz k0 k1 k2 hb3
  go_enter Tryz.func61, Tryz.ntmps61
  go_wp2_with fail
  have y0 := HP.out.1.cell0
  have y1 := HP.out.1.cell1
  exact bodyPost_ret (v := zoneV ((m : Int) - 1) B (rlen m Rb) cb) (by simp [results, Tryz.results61, go_sem, y0, y1]) rfl ⟨B, cb, bb, rfl, HZ.out, HP.out.2⟩
/-- How far Join has come. -/
def jst (m : Nat) (C D : Mat) (t : Nat) : Mat := fun a b => if a * m + b < t then max (C a b) (D a b) else C a b
theorem jst_zero (m : Nat) (C D : Mat) : jst m C D 0 = C := by
  funext a b
  unfold jst
  rw [if_neg (by omega)]
theorem jst_at {m : Nat} (C D : Mat) {i j : Nat} : jst m C D (i * m + j) i j = C i j := by
  unfold jst
  rw [if_neg (by omega)]
theorem spot_two {m a b i j : Nat} (hb : b < m) (hj : j < m) (h : a * m + b = i * m + j) : a = i ∧ b = j := by
  have h1 : (a * m + b) / m = (i * m + j) / m := by rw [h]
  have h2 : (a * m + b) % m = (i * m + j) % m := by rw [h]
  rw [Nat.mul_comm a m, Nat.mul_comm i m, Nat.mul_add_div (by omega), Nat.mul_add_div (by omega), Nat.div_eq_of_lt hb, Nat.div_eq_of_lt hj] at h1
  rw [Nat.mul_comm a m, Nat.mul_comm i m, Nat.mul_add_mod, Nat.mul_add_mod, Nat.mod_eq_of_lt hb, Nat.mod_eq_of_lt hj] at h2
  omega
theorem jst_step {m : Nat} (C D : Mat) {i j : Nat} (hj : j < m) : Same m (upd (jst m C D (i * m + j)) i j (max (C i j) (D i j))) (jst m C D (i * m + j + 1)) := fun a b _ hb => by
  unfold upd
  split
  · rename_i e
    obtain ⟨rfl, rfl⟩ := e
    unfold jst
    rw [if_pos (by omega)]
  · rename_i e
    unfold jst
    by_cases h : a * m + b < i * m + j
    · rw [if_pos h, if_pos (by omega)]
    · rw [if_neg h, if_neg]
      intro h2
      exact e (spot_two hb hj (by omega))
theorem jst_all {m : Nat} (C D : Mat) : Same m (jst m C D (m * m)) (maxM C D) := fun a b ha hb => by
  unfold jst
  rw [if_pos (spot_lt ha hb)]
  rfl
/-- While Join goes. -/
structure JT (w : World) (m go co : Nat) (E : Mat) (vb : Value) (va : Value) (W : World) : Prop where
  low : Below w.heap.size w W
  za : Duo W w.heap.size 24 (.int .i64 ((m : Int) - 1)) va
  zb : Duo W (w.heap.size + 1) 24 (.int .i64 ((m : Int) - 1)) vb
  zr : Duo W (w.heap.size + 2) 24 (.int .i64 0) (.slice none 0 0)
  rowE : RZ m go co E (w.heap.size + 3) W
section
variable {W W1 : World} {go co : Nat} {E E' : Mat} {va vb : Value}
theorem JT.below (h : JT w m go co E vb va W) (hb : Below W.heap.size W W1) : JT w m go co E vb va W1 := ⟨h.low.trans (hb.mono h.low.size), h.za.below hb, h.zb.below hb, h.zr.below hb, h.rowE.below hb⟩
theorem JT.congr (h : JT w m go co E vb va W) (he : Same m E E') : JT w m go co E' vb va W := ⟨h.low, h.za, h.zb, h.zr, ⟨by rw [← flat_congr he]; exact h.rowE.row⟩⟩
theorem JT.far (h : JT w m go co E vb va W) : w.heap.size + 3 ≤ go := (h.rowE.row.lt go rfl).1
theorem JT.set {i j : Nat} (h : JT w m go co E vb va W) (hj : j < m) (x : Int) : JT w m go co (upd E i j x) vb va (W.setCell ⟨go, i * m + j, none⟩ (.int .i64 x)) := by
  have hf := h.far
  obtain ⟨hs, -⟩ := h.rowE.row.stored (i * m + j) (.int .i64 x)
  rw [← List.map_set, flat_set E hj x] at hs
  exact ⟨h.low.setCell (p := ⟨go, _, none⟩) (by show w.heap.size ≤ go; omega) _, h.za.other (by show w.heap.size ≠ go; omega) _, h.zb.other (by show w.heap.size + 1 ≠ go; omega) _, h.zr.other (by show w.heap.size + 2 ≠ go; omega) _, ⟨hs⟩⟩
end
set_option maxRecDepth 100000 in
set_option maxHeartbeats 6400000 in
theorem rjoin_some {C : Mat} (h0 : 0 < m) (h7 : m ≤ 7) (ha : ZRes w ba m (some C) (zoneV ((m : Int) - 1) A (rlen m (some C)) ca)) (hb : ZRes w bb m Rb (zoneV ((m : Int) - 1) B (rlen m Rb) cb)) :
    Calls Tryz.prog 61 #[zoneV ((m : Int) - 1) A (rlen m (some C)) ca, zoneV ((m : Int) - 1) B (rlen m Rb) cb] w (RetO w m (jnO m m (some C) Rb)) := by
  obtain ⟨i0, hi0, hz0, hz1, hz2⟩ := info_parts zinfo3
  obtain ⟨ga, rfl, pa, hC⟩ := rp_of ha
  have e0 : rlen m (some C) = m * m := rfl
  rw [e0]
  have hmm : 0 < m * m := Nat.mul_pos h0 h0
  have hmm2 : m * m ≤ 49 := Nat.mul_le_mul h7 h7
  obtain ⟨W3, hW3, k0, k1, k2, hb3, hs3⟩ := three_boxes_r w (.int .i64 ((m : Int) - 1)) (.slice (some ⟨ga, 0, none⟩) (m * m) ca) (.int .i64 ((m : Int) - 1)) (.slice B (rlen m Rb) cb) (.int .i64 0) (.slice none 0 0)
  have hb4 := zboxed W3 (.cells #[] 3)
  have hlit := World.ownsRow_lit (base := w.heap.size + 3) (e := 3) (size := 1) W3 #[] 0 (by omega) (by unfold maxLen; omega) rfl
  rw [hs3] at hlit
  have HLit := Lib.hid hlit
  have HR := Lib.hid (rowAt_own ((pa.below hb3).below hb4).row)
  have HLen : Hid (((flatL m C).map (Value.int .i64)).length = m * m * 1 ∧ (0 + m * m ≤ maxLen ∧ (0 + m * m) * 8 ≤ 140737488355328) ∧ w.heap.size + 3 ≤ (W3.alloc (.cells #[] 3)).heap.size) := Lib.hid ⟨by rw [List.length_map, flat_len]; omega, by unfold maxLen; omega, by rw [World.size_alloc]; omega⟩
  have HQ : Hid (∀ W4 go co, (W3.alloc (.cells #[] 3)).grownBy W4 (some (w.heap.size + 3)) → W4.ownsRow (w.heap.size + 3) 3 1 (.slice (some ⟨go, 0, none⟩) (m * m) co) (m * m) ((flatL m C).map (Value.int .i64)) →
      JT w m go co (jst m C C 0) (.slice B (rlen m Rb) cb) (.slice (some ⟨ga, 0, none⟩) (m * m) ca) W4) := Lib.hid fun W4 go co hg ho => by
    have hb : Below W3.heap.size W3 W4 := hb4.grown hg hb4.size (fun k hk => by injection hk with hk; omega)
    rw [jst_zero]
    exact ⟨hb3.trans (hb.mono hb3.size), k0.below hb, k1.below hb, k2.below hb, ⟨ho⟩⟩
  have HMm := Lib.hid hmm
  have H7 := Lib.hid h7
  have c0 := k0.cell0
  have c1 := k0.cell1
  have c2 := k0.lt
  have q0 : (((m * m : Nat) : Int) == 0) = false := by simp; omega
  have q1 : decide (m * m = 0) = false := decide_eq_false (by omega)
  have q3 : ((m : Int) * (m : Int) == 0) = false := by rw [← Int.natCast_mul]; exact q0
  have q4 : decide ((m : Int) * (m : Int) = 0) = false := by rw [← Int.natCast_mul]; exact decide_eq_false (by omega)
  have HEnd : Hid (∀ (W : World) go co E, Closed m E → JT w m go co E (.slice B (rlen m Rb) cb) (.slice (some ⟨ga, 0, none⟩) (m * m) ca) W → RetO w m (some E) (.returned (zoneV ((m : Int) - 1) (some ⟨go, 0, none⟩) (m * m) co)) ((W.setCell ⟨w.heap.size + 2, 0, none⟩ (.int .i64 ((m : Int) - 1))).setCell ⟨w.heap.size + 2, 1, none⟩ (.slice (some ⟨go, 0, none⟩) (m * m) co))) := Lib.hid fun W go co E hE h =>
    ⟨_, co, w.heap.size + 3, rfl, ⟨hE, go, co, rfl, row_put h.zr h.rowE.row _ _⟩, (res_put h.zr h.low (by omega) _ _).2⟩
  have HC := Lib.hid hC
  cases Rb with
  | none =>
    have e1 : rlen m (none : Option Mat) = 0 := rfl
    rw [e1] at hW3 HQ HEnd
    rw [e1, show jnO m m (some C) none = some C by unfold jnO; simp]
    clear ha hb pa hC k0 k1 k2 hb3 hb4 hlit hmm hmm2 h0 h7
    go_enter Tryz.func61, Tryz.ntmps61
    go_wp2_with (at_builtin; refine wpList_append_rows rfl _ _ 22 rfl (w.heap.size + 3) 3 i0 (.int .i64 0) 1 8 Tryz.underlying22 hi0 hz0 hz1 hz2 rfl (by decide) _ _ _ rfl HLit.out _ (m * m) ((flatL m C).map (Value.int .i64)) rfl HR.out HLen.out.1 (ints_one _) HLen.out.2.1.1 HLen.out.2.1.2 HLen.out.2.2 ?_; intro v5 w5 ho hg hv; (rw [Nat.zero_add, List.nil_append] at ho); obtain ⟨go, co, hv5, hcq⟩ := row_pos ho HMm.out; subst hv5; have K := Lib.hid (HQ.out _ _ _ hg ho); clear ho hg hv)
    clear c0 c1 c2
    go_loopg [6] 0 (fun gk s wr => s = .int .i64 0 ∧ JT w m go co (jst m C C 0) (.slice B 0 cb) (.slice (some ⟨ga, 0, none⟩) (m * m) ca) wr)
    case atStart => exact ⟨rfl, K.out⟩
    case round =>
      obtain ⟨rfl, hM⟩ := hrel
      have M := Lib.hid hM
      clear hM K
      have a0 := M.out.za.cell0
      have a1 := M.out.za.lt
      have a2 := M.out.zb.cell1
      have a3 := M.out.zb.lt
      have a4 := M.out.zr.cell0
      have a5 := M.out.zr.cell1
      have a6 := M.out.zr.frozen0
      have a7 := M.out.zr.frozen1
      have a8 := M.out.zr.lt
      go_wp2_with fail
      have hp := res_put M.out.zr M.out.low (by omega) (.int .i64 ((m : Int) - 1)) (.slice (some ⟨go, 0, none⟩) (m * m) co)
      have y0 := hp.1.cell0
      have y1 := hp.1.cell1
      exact bodyPost_ret (v := zoneV ((m : Int) - 1) (some ⟨go, 0, none⟩) (m * m) co) (by simp [results, Tryz.results61, go_sem, y0, y1]) rfl (HEnd.out _ _ _ _ HC.out (by rw [← jst_zero m C C]; exact M.out))
  | some D =>
    obtain ⟨gb, rfl, pb, hD⟩ := rp_of hb
    have e1 : rlen m (some D) = m * m := rfl
    rw [e1] at hW3 HQ HEnd
    rw [e1, show jnO m m (some C) (some D) = some (maxM C D) by unfold jnO; simp]
    have HCl := Lib.hid (max_closed hC hD)
    have HPb := Lib.hid (fun (W : World) (hb : Below w.heap.size w W) => pb.below hb)
    clear ha hb pa pb hC hD k0 k1 k2 hb3 hb4 hlit hmm h0 h7
    go_enter Tryz.func61, Tryz.ntmps61
    go_wp2_with (at_builtin; refine wpList_append_rows rfl _ _ 22 rfl (w.heap.size + 3) 3 i0 (.int .i64 0) 1 8 Tryz.underlying22 hi0 hz0 hz1 hz2 rfl (by decide) _ _ _ rfl HLit.out _ (m * m) ((flatL m C).map (Value.int .i64)) rfl HR.out HLen.out.1 (ints_one _) HLen.out.2.1.1 HLen.out.2.1.2 HLen.out.2.2 ?_; intro v5 w5 ho hg hv; (rw [Nat.zero_add, List.nil_append] at ho); obtain ⟨go, co, hv5, hcq⟩ := row_pos ho HMm.out; subst hv5; have K := Lib.hid (HQ.out _ _ _ hg ho); clear ho hg hv)
    clear c0 c1 c2
    have hj0 : jst m C C 0 = jst m C D 0 := by rw [jst_zero, jst_zero]
    rw [hj0] at K
    clear hj0
    go_loopg [6] (m * m) (fun gk s wr => ∃ t : Nat, t + gk = m * m ∧ s = .int .i64 (t : Int) ∧ JT w m go co (jst m C D t) (.slice (some ⟨gb, 0, none⟩) (m * m) cb) (.slice (some ⟨ga, 0, none⟩) (m * m) ca) wr)
    case atStart => exact ⟨0, by omega, rfl, K.out⟩
    case round =>
      rename Nat => g0
      obtain ⟨t, ht', rfl, hM⟩ := hrel
      have HT := Lib.hid ht'
      have M := Lib.hid hM
      clear ht' hM K
      have a2 := M.out.zb.cell1
      have a3 := M.out.zb.lt
      by_cases htm : t < m * m
      · have hm0 : 0 < m := Nat.pos_of_ne_zero fun e => by subst e; omega
        obtain ⟨i, j, hi, hj, hij⟩ : ∃ i j, i < m ∧ j < m ∧ t = i * m + j := ⟨t / m, t % m, Nat.div_lt_of_lt_mul htm, Nat.mod_lt _ hm0, by have := Nat.div_add_mod t m; rw [Nat.mul_comm] at this; omega⟩
        have hjs : jst m C D t i j = C i j := by rw [hij]; exact jst_at C D
        obtain ⟨b0, b1, b2⟩ := M.out.rowE.at_ hi hj
        rw [← hij, hjs] at b0
        rw [← hij] at b1
        obtain ⟨b3, b4⟩ := (HPb.out _ M.out.low).at_ htm
        have hfd : fl m D t = D i j := by
          rw [hij]
          unfold fl
          rw [Nat.mul_comm i m, Nat.mul_add_div hm0, Nat.mul_add_mod, Nat.div_eq_of_lt hj, Nat.mod_eq_of_lt hj, Nat.add_zero]
        rw [hfd] at b3
        have n0 : ¬ go = w.heap.size + 1 := by have := M.out.far; omega
        have wt : IntKind.i64.wrap ((t : Int) + 1) = (t : Int) + 1 := IntWalk.i64_in _ (by omega)
        have t1 : (t : Int) < ((m * m : Nat) : Int) := by omega
        have t2 : (t : Int) < (m : Int) * (m : Int) := by rw [← Int.natCast_mul]; exact t1
        have HSt : Hid (C i j < D i j → JT w m go co (jst m C D (t + 1)) (.slice (some ⟨gb, 0, none⟩) (m * m) cb) (.slice (some ⟨ga, 0, none⟩) (m * m) ca) ((wr.drewN 1).setCell ⟨go, t, none⟩ (.int .i64 (D i j))) ∨ True) := Lib.hid fun _ => .inr trivial
        have HUp : Hid (∀ W, JT w m go co (jst m C D t) (.slice (some ⟨gb, 0, none⟩) (m * m) cb) (.slice (some ⟨ga, 0, none⟩) (m * m) ca) W → C i j < D i j → JT w m go co (jst m C D (t + 1)) (.slice (some ⟨gb, 0, none⟩) (m * m) cb) (.slice (some ⟨ga, 0, none⟩) (m * m) ca) (W.setCell ⟨go, t, none⟩ (.int .i64 (D i j)))) := Lib.hid fun W h hlt => by
          have h1 := (h.set (i := i) hj (D i j))
          have h2 := h1.congr (E' := jst m C D (t + 1)) (by
            have := jst_step (m := m) C D (i := i) hj
            rw [show max (C i j) (D i j) = D i j by omega] at this
            rw [hij]
            exact this)
          rw [hij]
          rw [hij] at h2
          exact h2
        have HNo : Hid (∀ W, JT w m go co (jst m C D t) (.slice (some ⟨gb, 0, none⟩) (m * m) cb) (.slice (some ⟨ga, 0, none⟩) (m * m) ca) W → ¬ C i j < D i j → JT w m go co (jst m C D (t + 1)) (.slice (some ⟨gb, 0, none⟩) (m * m) cb) (.slice (some ⟨ga, 0, none⟩) (m * m) ca) W) := Lib.hid fun W h hlt => by
          refine h.congr (fun a b ha hb => ?_)
          have := jst_step (m := m) C D (i := i) hj a b ha hb
          rw [hij, ← this]
          unfold upd
          split
          · rename_i e
            obtain ⟨rfl, rfl⟩ := e
            rw [jst_at]
            omega
          · rfl
        obtain ⟨x, hx⟩ : ∃ x, C i j = x := ⟨_, rfl⟩
        obtain ⟨y, hy⟩ : ∃ y, D i j = y := ⟨_, rfl⟩
        rw [hx] at b0 HUp HNo
        rw [hy] at b3 HUp HNo
        clear HSt hx hy hfd hjs hij
        by_cases hlt : x < y
        · have hd : decide (x < y) = true := decide_eq_true hlt
          go_wp2_with fail
          go_quiet (fail)
          obtain ⟨wa, hwa⟩ : ∃ wa, wr.drewN nq = wa := ⟨_, rfl⟩
          have MA := Lib.hid (M.out.below (rdrewN_below wr nq))
          have PA := Lib.hid ((HPb.out _ M.out.low).below (rdrewN_below wr nq))
          have hb0 := (rdrewN_below wr nq).cell (p := ⟨go, t, none⟩) b2
          have hb1 := (rdrewN_below wr nq).frozen (p := ⟨go, t, none⟩) b2
          have hb3 := (rdrewN_below wr nq).cell (p := ⟨gb, t, none⟩) b4
          have hbs := (rdrewN_below wr nq).size
          rw [hwa] at MA PA hb0 hb1 hb3 hbs ⊢
          rw [b0] at hb0
          rw [b1] at hb1
          rw [b3] at hb3
          have a2' := MA.out.zb.cell1
          have a3' := MA.out.zb.lt
          have b2' : go < wa.heap.size := by omega
          have b4' : gb < wa.heap.size := by omega
          clear hwa a2 a3 b0 b1 b2 b3 b4
          go_wp2_with fail
          have ht' := HT.out
          go_roundg (g0 - 1)
          case measure => omega
          case rel => exact ⟨t + 1, by omega, by simp, HUp.out _ MA.out hlt⟩
        · have hd : decide (x < y) = false := decide_eq_false hlt
          go_wp2_with fail
          go_quiet (fail)
          go_wp2_with fail
          have ht' := HT.out
          go_roundg (g0 - 1)
          case measure => omega
          case rel => exact ⟨t + 1, by omega, by simp, HNo.out _ (M.out.below (rdrewN_below wr nq)) hlt⟩
      · have hte : t = m * m := by have := HT.out; omega
        subst hte
        have MN := Lib.hid (M.out.congr (jst_all C D))
        have a0 := M.out.za.cell0
        have a1 := M.out.za.lt
        have a4 := M.out.zr.cell0
        have a5 := M.out.zr.cell1
        have a6 := M.out.zr.frozen0
        have a7 := M.out.zr.frozen1
        have a8 := M.out.zr.lt
        go_wp2_with fail
        have hp := res_put MN.out.zr MN.out.low (by omega) (.int .i64 ((m : Int) - 1)) (.slice (some ⟨go, 0, none⟩) (m * m) co)
        have y0 := hp.1.cell0
        have y1 := hp.1.cell1
        exact bodyPost_ret (v := zoneV ((m : Int) - 1) (some ⟨go, 0, none⟩) (m * m) co) (by simp [results, Tryz.results61, go_sem, y0, y1]) rfl (HEnd.out _ _ _ _ HCl.out MN.out)
theorem rjoin_any (h0 : 0 < m) (h7 : m ≤ 7) (ha : ZRes w ba m Ra (zoneV ((m : Int) - 1) A (rlen m Ra) ca)) (hb : ZRes w bb m Rb (zoneV ((m : Int) - 1) B (rlen m Rb) cb)) :
    Calls Tryz.prog 61 #[zoneV ((m : Int) - 1) A (rlen m Ra) ca, zoneV ((m : Int) - 1) B (rlen m Rb) cb] w (RetO w m (jnO m m Ra Rb)) := by
  cases Ra with
  | none =>
    have e : jnO m m none Rb = Rb := by unfold jnO; cases Rb <;> simp
    rw [e]
    exact rjoin_none hb
  | some C => exact rjoin_some h0 h7 ha hb
end
end Go.Proofs.YtimckaphmfidhaaGreatDoor
