/- Mk, where the children may be: the node that there is; no room; a new one. -/
import Derived.Test.YtlddelnbjihhgaaDoorNMk
import Derived.Deep.RegionLaw
namespace Go.Proofs.YtlddelnbjihhgaaDoor
open Go.RowKit
attribute [local go_sem ↓] Go.wp_at_zero Go.wp_at_succ

theorem found_more {P place ref : Nat} {T : Nat → Nat} {L : List Nd} {x y : Nd} {s : Nat} (hP : 0 < P) (hT : ∀ s, s < P → T s ≤ L.length) (h : Found P T L x s place ref false) : Found P T (L ++ [y]) x s place ref false := by
  obtain ⟨d, hd, hp, hS, h⟩ := h
  refine ⟨d, hd, hp, fun k hk => ⟨(hS k hk).1, ?_⟩, ?_⟩
  · have h1 := hT ((s + k) % P) (Nat.mod_lt _ hP)
    have h2 := (hS k hk).1
    rw [List.getElem?_append_left (by omega)]
    exact (hS k hk).2
  · rcases h with h | ⟨h, -⟩
    · exact .inl h
    · cases h
theorem keep_slot_drew {W : World} {a b : Addr} {x : Option Value} (u : Value) (h : W.drew.cell? b = x) (hne : a ≠ b) : ((W.setCell a u).drew).cell? b = x :=
  (World.cell?_setCell_other W a b u hne).trans h
theorem step_append_at {P : Program} {w : World} {ops : Array Oper} {o : Oper} {a : Act} {K : Act → World → Prop} {Q : Exit → Act → World → Prop} {E : Prop} (hgd : o.guard = none) (s x : Operand) (t : TypeId)
    (ho : o.op = .call { callee := .builtin .append, args := #[s, x], argTypes := #[t, t] })
    (base : Nat) (e : TypeId) (i : TypeInfo) (z : Value) (size bytes : Nat) (ht : P.underlying t = some (.slice e)) (hi : P.info? e = some i) (hz : i.zero = some z)
    (hsize : i.size = size) (hby : i.bytes = bytes) (hzs : z.cells.size = size) (hsz : 0 < size)
    (v : Value) (n : Nat) (xs : List Value) (hs : a.eval s = v) (hown : w.ownsRow base e size v n xs)
    (ad : Addr) (m c : Nat) (news : List Value) (hx : a.eval x = .slice (some ad) m c) (hl : news.length = m * size) (hnews : ∀ j u, news[j]? = some u → w.cell? (ad.add j) = some u) (h1 : ∀ u ∈ news, u.oneCell' = true)
    (h63 : n + m ≤ maxLen) (hbytes : (n + m) * bytes ≤ 140737488355328) (hbase : base ≤ w.heap.size)
    (h : ∀ v' w', w'.ownsRow base e size v' (n + m) (xs ++ news) → w.grownBy w' v.ownBlock → (v'.ownBlock = v.ownBlock ∨ v'.ownBlock = some w.heap.size) → K (a.put o.dst v') w') :
    if Region.wanted o (yielded ops a.tmps) = true then Oper.wp P o a w K Q else E := by
  have hw : Region.wanted o (yielded ops a.tmps) = true := by simp [Region.wanted, hgd]
  rw [if_pos hw]
  exact wp_append_at s x t ho base e i z size bytes ht hi hz hsize hby hzs hsz v n xs hs hown ad m c news hx hl hnews h1 h63 hbytes hbase h
theorem news_at (w : World) (a b c : Value) (t : TypeId) : ∀ (j : Nat) (u : Value), [a, b, c][j]? = some u → ((w.alloc (.cells #[a, b, c] t)).drew.drew).cell? ((⟨w.heap.size, 0, none⟩ : Addr).add j) = some u := fun j u h => by
  rw [Addr.add_lit, Nat.zero_add]
  exact ((Blk.new w t #[a, b, c]).cell j).trans (by simpa using h)
theorem one_three (a b c : Int) : ∀ u ∈ [Value.int .i64 a, Value.int .i64 b, Value.int .i64 c], u.oneCell' = true := by
  intro u hu
  simp at hu
  rcases hu with rfl | rfl | rfl <;> rfl
theorem own_form {W : World} {base n size : Nat} {e : TypeId} {v : Value} {xs : List Value} (h : W.ownsRow base e size v n xs) (hn : 0 < n) : ∃ A c, v = .slice A n c := by
  rcases h.2 with ⟨_, h0⟩ | ⟨g, cap, cur, rfl, _⟩
  · omega
  · exact ⟨_, _, rfl⟩
theorem keep_slot {W : World} {a b : Addr} {x : Option Value} (u : Value) (h : W.cell? b = x) (hne : a ≠ b) : (W.setCell a u).cell? b = x := by
  rw [World.cell?_setCell_other W a b u hne]; exact h
section
variable {W : World} {own : Nat → Prop} {p lim : Nat} {L : List Nd} {v lo hi : Int}
theorem below_yes {n : Nat} {x v : Int} {L : List Nd} (h : hasP n x = true ∧ v < varP L x) : (hasP n x && decide (v < varP L x)) = true := by rw [Bool.and_eq_true, decide_eq_true_eq]; exact h
/-- Behind spread, and find. -/
theorem found_old {P1 k place ref : Nat} {T1 : Nat → Nat} {L : List Nd} {x : Nd} {held : Bool} (hu : Uniq L) (hI : Inv P1 T1 L (stP P1) L.length) (hx : L[k]? = some x) (hF : Found P1 T1 L x (stP P1 x) place ref held) : held = true ∧ ref = k := by
  cases held
  · exact absurd hx (found_new hI hF k (get_len hx))
  · obtain ⟨d, -, -, -, h⟩ := hF
    rcases h with ⟨h, -⟩ | ⟨-, -, h2⟩
    · cases h
    · exact ⟨rfl, hu ref k x h2 hx⟩
theorem found_none {P1 place ref : Nat} {T1 : Nat → Nat} {L : List Nd} {x : Nd} {held : Bool} (hx : ∀ k : Nat, L[k]? ≠ some x) (hF : Found P1 T1 L x (stP P1 x) place ref held) : held = false := by
  cases held
  · rfl
  · obtain ⟨d, -, -, -, h⟩ := hF
    rcases h with ⟨h, -⟩ | ⟨-, -, h2⟩
    · cases h
    · exact absurd h2 (hx ref)
set_option maxRecDepth 100000 in
set_option maxHeartbeats 1600000 in
theorem mk_old {k : Nat} (hA : Arena W own p lim L) (h0 : 0 ≤ v) (h12 : v < 12) (hc : hasP L.length lo = true ∧ v < varP L lo) (hd : hasP L.length hi = true ∧ v < varP L hi) (he : lo ≠ hi) (hx : L[k]? = some (v, lo, hi)) :
    Calls Tryd.prog 65 #[.pointer (some ⟨p, 0, none⟩), .int .i64 v, .int .i64 lo, .int .i64 hi] W (RetMk own p lim L v lo hi W) := by
  obtain ⟨P, T, An, Ap, cn, cp, hR, hI, hP, hu⟩ := hA
  have hm : mkP lim L v lo hi = (L, (k : Int), 0) := by unfold mkP; rw [if_neg (by omega), if_neg (by simp [hc, hd]), if_neg he, whereP_some hu.2 hx]
  have HM := Lib.hid hm
  have HU := Lib.hid hu
  have HX := Lib.hid hx
  have H1 := Lib.hid (belowA_any (v := v) (r := lo) hR)
  have H2 := Lib.hid (belowA_any (v := v) (r := hi) hR)
  rw [below_yes hc] at H1
  rw [below_yes hd] at H2
  have zb := (Below.refl W.heap.size W).alloc (Nat.le_refl _) (.cells #[.int .i64 v, .int .i64 lo, .int .i64 hi] 106)
  have HB := Lib.hid (Blk.new W 106 #[.int .i64 v, .int .i64 lo, .int .i64 hi])
  have HN := Lib.hid (show ¬ own W.heap.size from fun ho => absurd (hR.old _ ho) (by omega))
  have HSp := Lib.hid (spread_any (hR.below zb) hI hP hu)
  have HZ := Lib.hid zb
  have g0 : ¬ v < 0 := by omega
  have g1 : ¬ 12 ≤ v := by omega
  clear hR hI hP hu hm hc hd hx zb
  go_enter Tryd.func65, Tryd.ntmps65
  go_wp2_with (first
    | (go_at_call 102; ((with_reducible refine H1.out.mono ?_); rintro e w1 ⟨rfl, rfl⟩))
    | (go_at_call 102; ((with_reducible refine H2.out.mono ?_); rintro e w1 ⟨rfl, rfl⟩))
    | (go_at_call 103; ((with_reducible refine HSp.out.mono ?_); rintro e w1 ⟨⟨vv, rfl⟩, own1, P1, T1, Ap1, cp1, hR1, hI1, hP1, hO1, hw1⟩); have hB1 := hO1.blk HB.out HN.out; have b0 := hB1.cell 0; have b1 := hB1.cell 1; have b2 := hB1.cell 2; have HF := Lib.hid (find_any (v := v) (l := lo) (h := hi) hR1 (by omega) hI1.1 (inv_free hI1 (by omega))); have HR1 := Lib.hid hR1; have HI1 := Lib.hid hI1; have HP1 := Lib.hid hP1; have HO1 := Lib.hid hO1; have HW1 := Lib.hid hw1; clear hR1 hI1 hP1 hO1 hw1 hB1)
    | (go_at_call 104; ((with_reducible refine HF.out.mono ?_); rintro e w2 ⟨place, ref, held, rfl, hfd, hb2⟩); obtain ⟨rfl, rfl⟩ := found_old HU.out.2 HI1.out HX.out hfd; have HB2 := Lib.hid hb2; clear hfd hb2))
  go_ret2
  unfold RetMk
  rw [HM.out]
  refine ⟨_, own1, rfl, .inl ⟨rfl, rfl⟩, ⟨P1, T1, An, Ap1, cn, cp1, HR1.out.below HB2.out, HI1.out, ⟨Nat.le_of_lt HP1.out.1, HP1.out.2.2, HP1.out.2.1⟩, HU.out⟩, ((Only.of_below HZ.out own).trans HO1.out fun i hi => .inl hi).then_below HB2.out, fun i hi => (HW1.out i hi).imp id fun hge => ?_⟩
  have := HZ.out.size
  omega
set_option maxRecDepth 100000 in
set_option maxHeartbeats 1600000 in
theorem mk_full (hA : Arena W own p lim L) (h0 : 0 ≤ v) (h12 : v < 12) (hc : hasP L.length lo = true ∧ v < varP L lo) (hd : hasP L.length hi = true ∧ v < varP L hi) (he : lo ≠ hi) (hx : ∀ k : Nat, L[k]? ≠ some (v, lo, hi)) (hlim : lim ≤ L.length) :
    Calls Tryd.prog 65 #[.pointer (some ⟨p, 0, none⟩), .int .i64 v, .int .i64 lo, .int .i64 hi] W (RetMk own p lim L v lo hi W) := by
  obtain ⟨P, T, An, Ap, cn, cp, hR, hI, hP, hu⟩ := hA
  have hm : mkP lim L v lo hi = (L, 0, 50) := by unfold mkP; rw [if_neg (by omega), if_neg (by simp [hc, hd]), if_neg he, whereP_none (fun k _ => hx k)]; exact if_pos hlim
  have HM := Lib.hid hm
  have HU := Lib.hid hu
  have HX := Lib.hid hx
  have H1 := Lib.hid (belowA_any (v := v) (r := lo) hR)
  have H2 := Lib.hid (belowA_any (v := v) (r := hi) hR)
  rw [below_yes hc] at H1
  rw [below_yes hd] at H2
  have zb := (Below.refl W.heap.size W).alloc (Nat.le_refl _) (.cells #[.int .i64 v, .int .i64 lo, .int .i64 hi] 106)
  have HB := Lib.hid (Blk.new W 106 #[.int .i64 v, .int .i64 lo, .int .i64 hi])
  have HN := Lib.hid (show ¬ own W.heap.size from fun ho => absurd (hR.old _ ho) (by omega))
  have HSp := Lib.hid (spread_any (hR.below zb) hI hP hu)
  have HZ := Lib.hid zb
  have g0 : ¬ v < 0 := by omega
  have g1 : ¬ 12 ≤ v := by omega
  have hle : (lim : Int) ≤ (L.length : Int) := by omega
  have dle : decide ((lim : Int) ≤ (L.length : Int)) = true := decide_eq_true hle
  clear hR hI hP hu hm hc hd hx zb hlim
  go_enter Tryd.func65, Tryd.ntmps65
  go_wp2_with (first
    | (go_at_call 102; ((with_reducible refine H1.out.mono ?_); rintro e w1 ⟨rfl, rfl⟩))
    | (go_at_call 102; ((with_reducible refine H2.out.mono ?_); rintro e w1 ⟨rfl, rfl⟩))
    | (go_at_call 103; ((with_reducible refine HSp.out.mono ?_); rintro e w1 ⟨⟨vv, rfl⟩, own1, P1, T1, Ap1, cp1, hR1, hI1, hP1, hO1, hw1⟩); have hB1 := hO1.blk HB.out HN.out; have b0 := hB1.cell 0; have b1 := hB1.cell 1; have b2 := hB1.cell 2; have HF := Lib.hid (find_any (v := v) (l := lo) (h := hi) hR1 (by omega) hI1.1 (inv_free hI1 (by omega))); have HR1 := Lib.hid hR1; have HI1 := Lib.hid hI1; have HP1 := Lib.hid hP1; have HO1 := Lib.hid hO1; have HW1 := Lib.hid hw1; clear hR1 hI1 hP1 hO1 hw1 hB1)
    | (go_at_call 104; ((with_reducible refine HF.out.mono ?_); rintro e w2 ⟨place, ref, held, rfl, hfd, hb2⟩); obtain rfl := found_none HX.out hfd; have HFd := Lib.hid hfd; have HB2 := Lib.hid hb2; have HR2 := Lib.hid (HR1.out.below hb2); have c0 := HR2.out.c0; have hb0 := Lib.hid (Below.refl w2.heap.size w2).drew; have HL := Lib.hid (fun (W1 : World) (hb : Below w2.heap.size w2 W1) => len_any (HR2.out.below hb).c1); have K0 : Hid (w2.drew.cell? ⟨p, 0, none⟩ = some (.int .i64 lim)) := Lib.hid c0; clear hfd hb2))
  go_region_held3 (fun w' => w'.cell? ⟨p, 0, none⟩ = some (.int .i64 lim))
    (first | (with_reducible exact K0.out))
    (first
      | (go_at_call 67; ((with_reducible refine (HL.out _ hb0.out).mono ?_); rintro e w9 ⟨rfl, rfl⟩)))
  go_wp2_with (first
    | (go_at_call 101; ((with_reducible refine (fault_any _ _ _).mono ?_); rintro e w3 hf); have HF3 := Lib.hid hf; obtain ⟨rfl, -⟩ := hf))
  go_ret2
  unfold RetMk
  rw [HM.out]
  obtain ⟨-, hbk, -, hbl⟩ := HF3.out
  have hbl2 := hb0.out.trans hbl
  have hs1 := HO1.out.size
  have hs2 := HB2.out.size
  have hs0 := HZ.out.size
  refine ⟨_, own1, rfl, .inr ⟨(by show (50 : Int) ≠ 0; decide), w2.drew.heap.size, ?_, rfl, hbk⟩, ⟨P1, T1, An, Ap1, cn, cp1, HR2.out.below hbl2, HI1.out, ⟨Nat.le_of_lt HP1.out.1, HP1.out.2.2, HP1.out.2.1⟩, HU.out⟩, (((Only.of_below HZ.out own).trans HO1.out fun i hi => .inl hi).then_below HB2.out).then_below hbl2, fun i hi => (HW1.out i hi).imp id fun hge => ?_⟩
  · show W.heap.size ≤ w2.heap.size
    omega
  · omega
set_option maxRecDepth 100000 in
set_option maxHeartbeats 1600000 in
theorem mk_new (hA : Arena W own p lim L) (h0 : 0 ≤ v) (h12 : v < 12) (hc : hasP L.length lo = true ∧ v < varP L lo) (hd : hasP L.length hi = true ∧ v < varP L hi) (he : lo ≠ hi) (hx : ∀ k : Nat, L[k]? ≠ some (v, lo, hi)) (hlim : L.length < lim) (hfew : L.length + 1 ≤ 4000) :
    Calls Tryd.prog 65 #[.pointer (some ⟨p, 0, none⟩), .int .i64 v, .int .i64 lo, .int .i64 hi] W (RetMk own p lim L v lo hi W) := by
  obtain ⟨P, T, An, Ap, cn, cp, hR, hI, hP, hu⟩ := hA
  have hm : mkP lim L v lo hi = (L ++ [(v, lo, hi)], (L.length : Int), 0) := by unfold mkP; rw [if_neg (by omega), if_neg (by simp [hc, hd]), if_neg he, whereP_none (fun k _ => hx k)]; exact if_neg (by omega)
  have HM := Lib.hid hm
  have HRR := Lib.hid (show RightL (L ++ [(v, lo, hi)]) by have := mkP_right (lim := lim) hu v lo hi; rw [hm] at this; exact this)
  have hinfo : (Tryd.prog.info? 106).map (fun i => (i.zero, i.size, i.bytes)) = some (some (.agg #[.int .i64 0, .int .i64 0, .int .i64 0]), 3, 24) := by kernel_rfl
  obtain ⟨i0, hi0, hz0, hz1, hz2⟩ := info_parts hinfo
  have HI0 := Lib.hid (And.intro hi0 (And.intro hz0 (And.intro hz1 hz2)))
  have HU := Lib.hid hu
  have HX := Lib.hid hx
  have H1 := Lib.hid (belowA_any (v := v) (r := lo) hR)
  have H2 := Lib.hid (belowA_any (v := v) (r := hi) hR)
  rw [below_yes hc] at H1
  rw [below_yes hd] at H2
  have zb := (Below.refl W.heap.size W).alloc (Nat.le_refl _) (.cells #[.int .i64 v, .int .i64 lo, .int .i64 hi] 106)
  have HB := Lib.hid (Blk.new W 106 #[.int .i64 v, .int .i64 lo, .int .i64 hi])
  have HN := Lib.hid (show ¬ own W.heap.size from fun ho => absurd (hR.old _ ho) (by omega))
  have HSp := Lib.hid (spread_any (hR.below zb) hI hP hu)
  have HZ := Lib.hid zb
  have g0 : ¬ v < 0 := by omega
  have g1 : ¬ 12 ≤ v := by omega
  have hle : ¬ (lim : Int) ≤ (L.length : Int) := by omega
  have dle : decide ((lim : Int) ≤ (L.length : Int)) = false := decide_eq_false hle
  have hlt : (L.length : Int) < (lim : Int) := by omega
  clear hR hI hP hu hm hc hd hx zb hlim hinfo hi0 hz0 hz1 hz2
  go_enter Tryd.func65, Tryd.ntmps65
  go_wp2_with (first
    | (go_at_call 102; ((with_reducible refine H1.out.mono ?_); rintro e w1 ⟨rfl, rfl⟩))
    | (go_at_call 102; ((with_reducible refine H2.out.mono ?_); rintro e w1 ⟨rfl, rfl⟩))
    | (go_at_call 103; ((with_reducible refine HSp.out.mono ?_); rintro e w1 ⟨⟨vv, rfl⟩, own1, P1, T1, Ap1, cp1, hR1, hI1, hP1, hO1, hw1⟩); have hB1 := hO1.blk HB.out HN.out; have b0 := hB1.cell 0; have b1 := hB1.cell 1; have b2 := hB1.cell 2; have HF := Lib.hid (find_any (v := v) (l := lo) (h := hi) hR1 (by omega) hI1.1 (inv_free hI1 (by omega))); have HR1 := Lib.hid hR1; have HI1 := Lib.hid hI1; have HP1 := Lib.hid hP1; have HO1 := Lib.hid hO1; have HW1 := Lib.hid hw1; clear hR1 hI1 hP1 hO1 hw1 hB1)
    | (go_at_call 104; ((with_reducible refine HF.out.mono ?_); rintro e w2 ⟨place, ref, held, rfl, hfd, hb2⟩); obtain rfl := found_none HX.out hfd; have HFd := Lib.hid hfd; have HB2 := Lib.hid hb2; have HR2 := Lib.hid (HR1.out.below hb2); have c0 := HR2.out.c0; have hb0 := Lib.hid (Below.refl w2.heap.size w2).drew; have HL := Lib.hid (fun (W1 : World) (hb : Below w2.heap.size w2 W1) => len_any (HR2.out.below hb).c1); have K0 : Hid (w2.drew.cell? ⟨p, 0, none⟩ = some (.int .i64 lim)) := Lib.hid c0; have hB2 := (HO1.out.blk HB.out HN.out).below hb2 (HO1.out.blk HB.out HN.out).lt; have e0 := hB2.cell 0; have e1 := hB2.cell 1; have e2 := hB2.cell 2; have e3 := hB2.lt; have e4 := HR2.out.blk.lt; have e5 := HR2.out.c1; clear hfd hb2 hB2))
  go_region_held3 (fun w' => w'.cell? ⟨p, 0, none⟩ = some (.int .i64 lim))
    (first | (with_reducible exact K0.out))
    (first
      | (go_at_call 67; ((with_reducible refine (HL.out _ hb0.out).mono ?_); rintro e w9 ⟨rfl, rfl⟩)))
  go_wp2_with fail
  have HX4 := Lib.hid ((Below.refl _ w2).alloc (Nat.le_refl _) (.cells #[.int .i64 v, .int .i64 lo, .int .i64 hi] 106)).drew.drew
  have HR4 := Lib.hid (HR2.out.below HX4.out)
  have HN4 := Lib.hid (news_at w2 (.int .i64 v) (.int .i64 lo) (.int .i64 hi) 106)
  have hpp := found_lt HFd.out
  go_region_law (refine step_append_at rfl (.tmp 71) (.tmp 73) 129 rfl 0 106 i0 (.agg #[.int .i64 0, .int .i64 0, .int .i64 0]) 3 24 Tryd.underlying129 HI0.out.1 HI0.out.2.1 HI0.out.2.2.1 HI0.out.2.2.2 rfl (by decide) (.slice An L.length cn) L.length (cellsL L) (by simp [Act.eval]) HR4.out.rowN ⟨w2.heap.size, 0, none⟩ 1 1 [.int .i64 v, .int .i64 lo, .int .i64 hi] (by simp [Act.eval]) rfl HN4.out (one_three _ _ _) (by unfold maxLen; omega) (by omega) (Nat.zero_le _) ?_; intro v' w4 ho4 hg4 hl4; obtain ⟨A5, c5, rfl⟩ := own_form ho4 (by omega); have hp4 := HR4.out.blk.grown hg4 (own_blk_ne HR4.out.rowN HR4.out.blk (by decide)).symm; have j0 := hp4.cell 1; have j1 := hp4.frozen 1; have HO4 := Lib.hid ho4; have HG4 := Lib.hid hg4; have HL4 := Lib.hid hl4; clear ho4 hg4 hl4 hp4)
  all_goals
    obtain ⟨An5, cn5, hv5, hR5, hO5⟩ := HR4.out.more (x := (v, lo, hi)) hfew HO4.out HG4.out (HL4.out.imp id fun e => ⟨_, e, Nat.le_refl _⟩)
    injection hv5 with q1 q2 q3
    subst q1
    subst q3
    obtain ⟨gp, hAp, hcp⟩ := hR5.place hpp
    subst hAp
    have hfp := (hR5.slot hpp).2
    have k2 := hR5.c2
    have hlen : (L ++ [(v, lo, hi)]).length = L.length + 1 := by simp
    have HL5 := Lib.hid (fun (W1 : World) (hb : Below (w4.setCell ⟨p, 1, none⟩ (.slice A5 (L.length + 1) c5)).heap.size (w4.setCell ⟨p, 1, none⟩ (.slice A5 (L.length + 1) c5)) W1) => by have := len_any (hR5.below hb).c1; rw [hlen] at this; exact this)
    have hput := hR5.put hpp (L.length + 1)
    have ec : ((L.length + 1 : Nat) : Int) = (L.length : Int) + 1 := by omega
    rw [ec] at hput
    have HL6 := Lib.hid (show Calls Tryd.prog 67 #[.pointer (some ⟨p, 0, none⟩)] ((w4.setCell ⟨p, 1, none⟩ (.slice A5 (L.length + 1) c5)).setCell ⟨gp, place, none⟩ (.int .i64 ((L.length : Int) + 1))).drew (RetW (.int .i64 ((L.length : Int) + 1)) _) by have := len_any (hput.1.below (Below.refl _ _).drew).c1; rw [hlen, ec] at this; exact this)
    have hputD := (Below.refl ((w4.setCell ⟨p, 1, none⟩ (.slice A5 (L.length + 1) c5)).setCell ⟨gp, place, none⟩ (.int .i64 ((L.length : Int) + 1))).heap.size ((w4.setCell ⟨p, 1, none⟩ (.slice A5 (L.length + 1) c5)).setCell ⟨gp, place, none⟩ (.int .i64 ((L.length : Int) + 1)))).drew
    have HD := Lib.hid hputD
    clear hputD ec
    have HR5 := Lib.hid hR5
    have HO5 := Lib.hid hO5
    have HPut := Lib.hid hput
    have hb5 := Lib.hid (Below.refl (w4.setCell ⟨p, 1, none⟩ (.slice A5 (L.length + 1) c5)).heap.size (w4.setCell ⟨p, 1, none⟩ (.slice A5 (L.length + 1) c5))).drew
    have hne : (⟨gp, place, none⟩ : Addr) ≠ ⟨p, 2, none⟩ := fun e => own_blk_ne hR5.rowP hR5.blk (by decide) (by injection e with e1; rw [← e1]; rfl)
    have HNE := Lib.hid hne
    have K5 : Hid ((w4.setCell ⟨p, 1, none⟩ (.slice A5 (L.length + 1) c5)).drew.cell? ⟨p, 2, none⟩ = some (.slice (some ⟨gp, 0, none⟩) P1 cp1)) := Lib.hid k2
    have HFP := Lib.hid hfp
    have HCP := Lib.hid hcp
    have HLn := Lib.hid hlen
    clear hR5 hO5 hput hne hlen j0 j1 e0 e1 e2 e5 c0
    go_wp2_with fail
    go_region_held3 (fun w' => w'.cell? ⟨p, 2, none⟩ = some (.slice (some ⟨gp, 0, none⟩) P1 cp1))
      (first | (with_reducible exact K5.out) | (with_reducible exact keep_slot_drew _ K5.out HNE.out))
      (first
        | (go_at_call 67; ((with_reducible refine (HL5.out _ hb5.out).mono ?_); rintro e w9 ⟨rfl, rfl⟩)))
    go_wp2_with (first
      | (go_at_call 67; ((with_reducible refine HL6.out.mono ?_); rintro e w9 ⟨rfl, rfl⟩)))
    go_ret2
    unfold RetMk
    rw [HM.out]
    have hs1 := HO1.out.size
    have hs2 := HB2.out.size
    have hs0 := HZ.out.size
    have hs4 := HX4.out.size
    have hown : ∀ i, own1 i → own i ∨ W.heap.size ≤ i := fun i hi => (HW1.out i hi).imp id fun hge => by omega
    refine ⟨_, _, rfl, .inl ⟨rfl, rfl⟩, ⟨P1, putT T1 place (L.length + 1), A5, some ⟨gp, 0, none⟩, c5, cp1, HPut.out.1.below HD.out, ?_, ?_, HRR.out⟩, ?_, ?_⟩
    · have h1 := found_put (L := L ++ [(v, lo, hi)]) (inv_more HI1.out fun k hk => List.getElem?_append_left hk) (found_more (by have := HP1.out; omega) HI1.out.1 HFd.out) (by simp)
      rw [show (L ++ [(v, lo, hi)], (L.length : Int), (0 : Int)).1.length = L.length + 1 from HLn.out]
      exact h1
    · show 2 * (L ++ [(v, lo, hi)]).length ≤ P1 ∧ P1 % 2 = 0 ∧ P1 ≤ 16 + 4 * (L ++ [(v, lo, hi)]).length
      rw [HLn.out]
      have := HP1.out
      omega
    · exact (((((((Only.of_below HZ.out own).trans HO1.out fun i hi => .inl hi).then_below HB2.out).then_below HX4.out).trans HO5.out hown)).trans HPut.out.2 fun i hi => hi.elim (hown i) (fun h => .inr (by omega))).then_below HD.out
    · exact fun i hi => hi.elim (hown i) (fun h => .inr (by omega))
end
end Go.Proofs.YtlddelnbjihhgaaDoor
