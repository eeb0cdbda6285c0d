/- The walk of SweepMoves. -/
import Derived.Test.YtlddelnbjihhgaaDoorSLaw
import Derived.Test.YtlddelnbjihhgaaDoorSRefMove
import Derived.Test.YtlddelnbjihhgaaDoorSNodes
import Derived.Test.YtlddelnbjihhgaaDoorSErr
namespace Go.Proofs.YtlddelnbjihhgaaDoor
open Go.RowKit
attribute [local go_sem ↓] Go.wp_at_zero Go.wp_at_succ

section
variable {w W W1 : World} {own : Nat → Prop} {p q lim c d b1 b2 K N : Nat} {A B : Option Addr} {L M : List Nd} {r : Int}
/-- An arena touches its three blocks alone: none of the document's. -/
theorem arena_slim (h : Arena W own p lim L) : ∃ own' : Nat → Prop, Arena W own' p lim L ∧ (∀ i, own' i → own i) ∧ (∀ A c M, RefA W A c M → ∀ g, (Value.slice A M.length c).ownBlock = some g → ¬ own' g) ∧ ∀ g cs, Blk W g 46 cs → ¬ own' g := by
  obtain ⟨P, T, An, Ap, cn, cp, hR, hrest⟩ := h
  refine ⟨fun i => i = p ∨ (Value.slice An L.length cn).ownBlock = some i ∨ (Value.slice Ap P cp).ownBlock = some i, ⟨P, T, An, Ap, cn, cp, ⟨hR.blk, .inl rfl, fun g e => .inr (.inl e), fun g e => .inr (.inr e), ?_, hR.rowN, hR.rowP, hR.limit, hR.few, hR.room⟩, hrest⟩, ?_, ?_, ?_⟩
  · rintro i (rfl | e | e)
    · exact hR.old _ hR.mine
    · exact hR.old _ (hR.mineN _ e)
    · exact hR.old _ (hR.mineP _ e)
  · rintro i (rfl | e | e)
    · exact hR.mine
    · exact hR.mineN _ e
    · exact hR.mineP _ e
  · rintro A c M h7 g hg (rfl | e | e)
    · exact own_blk_ne h7.1 hR.blk (by decide) hg
    · exact own_row_ne h7.1 hR.rowN (by decide) hg e
    · exact own_row_ne h7.1 hR.rowP (by decide) hg e
  · rintro g cs hg (rfl | e | e)
    · exact Blk.ne_ hg hR.blk (by decide) rfl
    · exact own_blk_ne hR.rowN hg (by decide) e
    · exact own_blk_ne hR.rowP hg (by decide) e
/-- Both scripts' arenas, apart from each other, the document's, and the boxes. -/
structure Tw (w : World) (ownT : Nat → Prop) (p : Nat) (A : Option Addr) (c : Nat) (L : List Nd) (q : Nat) (B : Option Addr) (d : Nat) (M : List Nd) (b1 b2 : Nat) (W : World) : Prop where
  src : ∃ ownF : Nat → Prop, Arena W ownF p 60 L ∧ ∀ i, ownF i → ¬ ownT i
  dst : Arena W ownT q 60 M
  rs : RefA W A c L
  rd : RefA W B d M
  box1 : Blk W b1 46 #[.int .i64 60, .slice A L.length c]
  box2 : Blk W b2 46 #[.int .i64 60, .slice B M.length d]
  new : ∀ i, ownT i → w.heap.size ≤ i
  low : Below w.heap.size w W
/-- Behind the Move: the target is another one. -/
structure Tm (w : World) (p : Nat) (A : Option Addr) (c : Nat) (L : List Nd) (B : Option Addr) (d : Nat) (M : List Nd) (b1 b2 : Nat) (W : World) : Prop where
  src : ∃ ownF : Nat → Prop, Arena W ownF p 60 L
  rs : RefA W A c L
  rd : RefA W B d M
  box1 : Blk W b1 46 #[.int .i64 60, .slice A L.length c]
  box2 : Blk W b2 46 #[.int .i64 60, .slice B M.length d]
  low : Below w.heap.size w W
theorem Tm.below (h : Tm w p A c L B d M b1 b2 W) (hb : Below W.heap.size W W1) : Tm w p A c L B d M b1 b2 W1 := by
  obtain ⟨ownF, h1⟩ := h.src
  exact ⟨⟨ownF, h1.below hb⟩, h.rs.below hb, h.rd.below hb, h.box1.below hb h.box1.lt, h.box2.below hb h.box2.lt, h.low.trans (hb.mono h.low.size)⟩
theorem tw_start {w1 w2 : World} {W : World} (h1 : Sw w p A c L w1) (hW : W = w1.alloc (.cells #[.int .i64 60, .slice A L.length c] 46)) (h2 : Sw W q B d M w2) : ∃ ownT, Tw w ownT p A c L q B d M w1.heap.size w2.heap.size (w2.alloc (.cells #[.int .i64 60, .slice B M.length d] 46)) := by
  have hb1 := (Below.refl w1.heap.size w1).alloc (Nat.le_refl _) (.cells #[.int .i64 60, .slice A L.length c] 46)
  rw [← hW] at hb1
  have hk1 := Blk.new w1 46 #[.int .i64 60, .slice A L.length c]
  rw [← hW] at hk1
  obtain ⟨⟨ownF, f1, f2, f3⟩, r1⟩ := h1
  obtain ⟨⟨own2, g1, g2, g3⟩, r2⟩ := h2
  obtain ⟨ownT, t1, t2, -, -⟩ := arena_slim g1
  have hb2 := (Below.refl w2.heap.size w2).alloc (Nat.le_refl _) (.cells #[.int .i64 60, .slice B M.length d] 46)
  have hbW := hb1.trans (g3.mono hb1.size)
  refine ⟨ownT, ⟨ownF, ((f1.below hb1).below g3).below hb2, fun i hi ht => ?_⟩, t1.below hb2, ((r1.below hb1).below g3).below hb2, r2.below hb2, (hk1.below g3 hk1.lt).below hb2 (Nat.lt_of_lt_of_le hk1.lt g3.size), Blk.new _ _ _, fun i hi => ?_, (f3.trans (hbW.mono f3.size)).trans (hb2.mono (Nat.le_trans f3.size hbW.size))⟩
  · have a1 := f1.old i hi
    have a2 := g2 i (t2 i ht)
    have a3 := hb1.size
    omega
  · have a2 := g2 i (t2 i hi)
    have a3 := hb1.size
    have a4 := f3.size
    omega
theorem Tw.moved {ownT : Nat → Prop} (h : Tw w ownT p A c L q B d M b1 b2 W) : ∃ own' : Nat → Prop, Tw w own' p A c L q B d M b1 b2 W ∧ ∀ W1, Only own' W W1 → Tm w p A c L B d M b1 b2 W1 := by
  obtain ⟨ownF, f1, f2⟩ := h.src
  obtain ⟨own', t1, t2, t3, t4⟩ := arena_slim h.dst
  refine ⟨own', ⟨⟨ownF, f1, fun i hi ht => f2 i hi (t2 i ht)⟩, t1, h.rs, h.rd, h.box1, h.box2, fun i hi => h.new i (t2 i hi), h.low⟩, fun W1 ho => ?_⟩
  exact ⟨⟨ownF, f1.only ho fun i hi ht => f2 i hi (t2 i ht)⟩, ⟨ho.row h.rs.1 (t3 _ _ _ h.rs), h.rs.2⟩, ⟨ho.row h.rd.1 (t3 _ _ _ h.rd), h.rd.2⟩, ho.blk h.box1 (t4 _ _ h.box1), ho.blk h.box2 (t4 _ _ h.box2), h.low.trans (ho.below h.low.size fun i hi => h.new i (t2 i hi))⟩
/-- What Move tells at the law. -/
def RetTw (w : World) (p : Nat) (A : Option Addr) (c : Nat) (L : List Nd) (q : Nat) (B : Option Addr) (d : Nat) (M : List Nd) (b1 b2 : Nat) (r : Int) (e : Ending) (w' : World) : Prop :=
  Tm w p A c L B d M b1 b2 w' ∧
  ((hasP L.length r = false ∧ e = .returned (.tuple #[.int .i64 0, .iface 53 (.int .i64 1)])) ∨
   (hasP L.length r = true ∧ ∃ M1 y, mvP 60 L r M = (M1, y, 0) ∧ e = .returned (.tuple #[.int .i64 y, .nilIface]) ∧ ∃ own1 : Nat → Prop, Arena w' own1 q 60 M1) ∨
   (hasP L.length r = true ∧ ∃ M1 cc, cc ≠ 0 ∧ mvP 60 L r M = (M1, 0, cc) ∧ ∃ b v, e = .returned (.tuple #[.int .i64 0, .iface 165 (.pointer (some ⟨b, 0, none⟩))]) ∧ Blk w' b 167 #[.string ⟨#[109, 107]⟩, .int .i64 v, .iface 53 (.int .i64 cc)]))
theorem tw_move {ownT : Nat → Prop} (h : Tw w ownT p A c L q B d M b1 b2 W) (hL : L.length ≤ 40) (hM : M.length ≤ 40) (r : Int) : Calls Tryd.prog 31 #[.pointer (some ⟨p, 0, none⟩), .pointer (some ⟨q, 0, none⟩), .int .i64 r] W (RetTw w p A c L q B d M b1 b2 r) := by
  obtain ⟨own', h', hm⟩ := h.moved
  obtain ⟨ownF, f1, f2⟩ := h'.src
  cases hr : hasP L.length r with
  | false =>
    refine (move_no f1 hr).mono fun e w' ⟨he, hw⟩ => ?_
    subst hw
    exact ⟨hm _ (Only.refl _ _), .inl ⟨hr, he⟩⟩
  | true =>
    refine (move_yes f1 h'.dst f2 (by omega) hr).mono fun e w' ⟨M1, y, cc, hmv, ho, hx⟩ => ⟨hm _ ho, .inr ?_⟩
    rcases hx with ⟨rfl, he, own1, a1, -⟩ | ⟨hc, b, v, he, hk⟩
    · exact .inl ⟨hr, M1, y, hmv, he, own1, a1⟩
    · have := mv_zero f1.right r M M1 y cc hmv hc
      subst this
      exact .inr ⟨hr, M1, cc, hc, hmv, b, v, he, hk⟩
theorem tm_has (h : Tm w p A c L B d M b1 b2 W) (hN : L.length = N) {x : Bool} (hx : hasP L.length r = x) : Calls Tryd.prog 32 #[.agg #[.int .i64 60, .slice A N c], .int .i64 r] W fun e w' => e = .returned (.bool x) ∧ Below W.heap.size W w' := by
  subst hN; subst hx
  exact rhas_any (lim := 60) h.rs
theorem tm_rmove (h : Tm w p A c L B d M b1 b2 W) (hN : L.length = N) (hK : M.length = K) (hL : N ≤ 40) (hM : K ≤ 40) {M1 : List Nd} {y cc : Int} (hm : mvP 60 L r M = (M1, y, cc)) (hRM : RightL M) : Calls Tryd.prog 34 #[.agg #[.int .i64 60, .slice A N c], .agg #[.int .i64 60, .slice B K d], .int .i64 r] W (RetRMk 60 M1 y cc W) := by
  subst hN; subst hK
  obtain ⟨ownF, f1⟩ := h.src
  exact rmove_all (limF := 60) f1.right r W A c B d M M1 y cc ⟨h.rs, h.rd, f1.right, hRM, came_start M, by omega⟩ hm
theorem tm_alive (h : Tm w p A c L B d M b1 b2 W) : Calls Tryd.prog 26 #[] W fun e w' => e = .returned (.bool true) ∧ Tm w p A c L B d M b1 b2 w' ∧ Below W.heap.size W w' :=
  (alive_any W).mono fun _ _ ⟨h1, h2⟩ => ⟨h1, h.below h2, h2⟩
theorem nodes_named {A3 : Option Addr} {c3 K1 : Nat} (hK : L.length = K1) (hA : Arena W own q lim L) (hr : RefA W A3 c3 L) : Calls Tryd.prog 30 #[.pointer (some ⟨q, 0, none⟩), .agg #[.int .i64 60, .slice A3 K1 c3]] W fun e w' => e = .returned (.bool true) ∧ Below W.heap.size W w' := by
  subst hK
  exact nodes_any hA hr 60
theorem tm_nodes (h : Tm w p A c L B d M b1 b2 W) (hN : L.length = N) : Calls Tryd.prog 30 #[.pointer (some ⟨p, 0, none⟩), .agg #[.int .i64 60, .slice A N c]] W fun e w' => e = .returned (.bool true) ∧ Below w.heap.size w w' := by
  subst hN
  obtain ⟨ownF, f1⟩ := h.src
  exact (nodes_any f1 h.rs 60).mono fun _ _ ⟨h1, h2⟩ => ⟨h1, h.low.trans (h2.mono h.low.size)⟩
end
theorem build_two {w W : World} {m1 c1 : Nat} {A1 : Option Addr} {f1 : Nat → Nd} (hb : Below w.heap.size w W) (hO1 : Ops w A1 m1 f1) : Calls Tryd.prog 25 #[.slice A1 m1 c1] W fun e w' => ∃ pv B d n, e = .returned (.tuple #[pv, .agg #[.int .i64 60, .slice B n d], .bool (decide (m1 ≤ 40))]) ∧ Below w.heap.size w w' := by
  by_cases hm : 40 < m1
  · rw [decide_eq_false (by omega)]
    exact (build_far hm W).mono fun _ _ ⟨h1, h2⟩ => ⟨_, _, _, _, h1, hb.trans (h2.mono hb.size)⟩
  · rw [decide_eq_true (by omega)]
    exact (build_sw (by omega) (hO1.below hb)).mono fun _ _ ⟨p, A, c, h1, h2⟩ => ⟨_, _, _, _, h1, hb.trans (h2.low.mono hb.size)⟩
set_option maxRecDepth 100000 in
set_option maxHeartbeats 12800000 in
theorem moves_walk (f0 : Nat → Nd) (A0 : Option Addr) (m0 c0 : Nat) (f1 : Nat → Nd) (A1 : Option Addr) (m1 c1 : Nat) (r : Int) (w : World) (he : ErrTy w) (_ : m0 ≤ 9223372036854775807) (_ : m0 ≤ c0) (hO : Ops w A0 m0 f0) (_ : m1 ≤ 9223372036854775807) (_ : m1 ≤ c1) (hO1 : Ops w A1 m1 f1) (_ : -9223372036854775808 ≤ r ∧ r ≤ 9223372036854775807) :
    Calls Tryd.prog 6 #[.slice A0 m0 c0, .slice A1 m1 c1, .int .i64 r] w fun e w' => e = .returned (.bool true) ∧ Below w.heap.size w w' := by
  have HE := Lib.hid he
  clear he
  by_cases hm : m0 ≤ 40 ∧ m1 ≤ 40
  · obtain ⟨hm0, hm1⟩ := hm
    have HF := Lib.hid (build_sw (c0 := c0) hm0 hO)
    have hfew := scr_few f0 hm0
    have hfew2 := scr_few f1 hm1
    obtain ⟨L, hL⟩ : ∃ L, scr 60 [] f0 m0 = L := ⟨_, rfl⟩
    obtain ⟨M, hM⟩ : ∃ M, scr 60 [] f1 m1 = M := ⟨_, rfl⟩
    have HF1 : Hid (∀ W, Below w.heap.size w W → Calls Tryd.prog 25 #[.slice A1 m1 c1] W fun e w' => ∃ p A c, e = .returned (.tuple #[.pointer (some ⟨p, 0, none⟩), .agg #[.int .i64 60, .slice A M.length c], .bool true]) ∧ Sw W p A c M w') := Lib.hid fun W hb => by rw [← hM]; exact build_sw hm1 (hO1.below hb)
    rw [hL] at HF hfew
    rw [hM] at hfew2
    have HL40 := Lib.hid hfew
    have HM40 := Lib.hid hfew2
    obtain ⟨N, hN⟩ : ∃ N, L.length = N := ⟨_, rfl⟩
    obtain ⟨K, hK⟩ : ∃ K, M.length = K := ⟨_, rfl⟩
    have HN := Lib.hid hN
    have HK := Lib.hid hK
    rw [hN] at HF hfew
    rw [hK] at HF1 hfew2
    have HN40 := Lib.hid hfew
    have HK40 := Lib.hid hfew2
    clear hL hM hN hK hO hO1
    go_enter Tryd.func6, Tryd.ntmps6
    go_upto_region 2 with (first
      | (go_at_call 25; ((with_reducible refine HF.out.mono ?_); rintro e w1 ⟨p, A, c, rfl, h1⟩); have H1 := Lib.hid h1; clear h1))
    obtain ⟨V, hV⟩ : ∃ V, V = w1.alloc (.cells #[.int .i64 60, .slice A N c] 46) := ⟨_, rfl⟩
    have HV := Lib.hid hV
    have HB2 := Lib.hid (HF1.out V (by rw [hV]; exact H1.out.low.trans ((Below.refl _ _).alloc H1.out.low.size _)))
    rw [← hV]
    clear hV
    go_upto_region 3 with (first
      | (go_at_call 25; ((with_reducible refine HB2.out.mono ?_); rintro e w2 ⟨q, B, d, rfl, h2⟩); have H2 := Lib.hid h2; clear h2))
    obtain ⟨ownT, hT⟩ := tw_start H1.out (by rw [HN.out]; exact HV.out) H2.out
    rw [HK.out] at hT
    have HT0 := Lib.hid hT
    obtain ⟨b1, hb1⟩ : ∃ b1, w1.heap.size = b1 := ⟨_, rfl⟩
    obtain ⟨b2, hb2⟩ : ∃ b2, w2.heap.size = b2 := ⟨_, rfl⟩
    obtain ⟨V2, hV2⟩ : ∃ V2, w2.alloc (.cells #[.int .i64 60, .slice B K d] 46) = V2 := ⟨_, rfl⟩
    have HRM := Lib.hid H2.out.right
    rw [hb1, hb2, hV2] at HT0
    rw [hV2, hb1, hb2]
    clear hT hb1 hb2 hV2 HB2 H1 H2 HV HF HF1
    have HMv := Lib.hid (tw_move HT0.out HL40.out HM40.out r)
    go_upto_region 6 with (first
      | (go_at_call 31; ((with_reducible refine HMv.out.mono ?_); rintro e w3 ⟨ht3, hw3⟩); have H3 := Lib.hid ht3; have x0 : w3.cell? ⟨b1, 0, none⟩ = some (.int .i64 60) := ht3.box1.cell 0; have x1 : w3.cell? ⟨b1, 1, none⟩ = some (.slice A N c) := by { have := ht3.box1.cell 1; rw [HN.out] at this; exact this }; have x2 : w3.cell? ⟨b2, 0, none⟩ = some (.int .i64 60) := ht3.box2.cell 0; have x3 : w3.cell? ⟨b2, 1, none⟩ = some (.slice B K d) := by { have := ht3.box2.cell 1; rw [HK.out] at this; exact this }; clear ht3; rcases hw3 with ⟨hh, rfl⟩ | ⟨hh, M1, y, hmv, rfl, own1, ha1⟩ | ⟨hh, M1, cc, hcc, hmv, b3, v3, rfl, hk3⟩))
    · have HH := Lib.hid hh
      clear hh
      go_wp2_with (first
        | (go_at_call 32; ((with_reducible refine (tm_has H3.out HN.out HH.out).mono ?_); rintro e w4 ⟨rfl, hb4⟩); have H4 := Lib.hid (H3.out.below hb4); clear hb4)
        | (go_at_call 26; ((with_reducible refine (tm_alive H4.out).mono ?_); rintro e w5 ⟨rfl, h5, -⟩); have H5 := Lib.hid h5; clear h5)
        | (go_at_call 33; ((with_reducible refine (is_self 1 _).mono ?_); rintro e w9 ⟨rfl, rfl⟩)))
      go_ret
      exact ⟨rfl, H5.out.low⟩
    · have HH := Lib.hid hh
      have HK5 := Lib.hid (fun (W : World) (h : Tm w p A c L B d M b1 b2 W) => tm_rmove h HN.out HK.out HN40.out HK40.out hmv HRM.out)
      obtain ⟨K1, hK1⟩ : ∃ K1, M1.length = K1 := ⟨_, rfl⟩
      have HK1 := Lib.hid hK1
      have hA1 := ha1
      have HA3 := Lib.hid hA1
      clear hA1 ha1
      clear hh hmv hK1
      go_upto_region 9 with (first
        | (go_at_call 32; ((with_reducible refine (tm_has H3.out HN.out HH.out).mono ?_); rintro e w4 ⟨rfl, hb4⟩); have H4 := Lib.hid (H3.out.below hb4); have HA4 := Lib.hid (HA3.out.below hb4); have y0 : w4.cell? ⟨b1, 0, none⟩ = some (.int .i64 60) := H4.out.box1.cell 0; have y1 : w4.cell? ⟨b1, 1, none⟩ = some (.slice A N c) := by { have := H4.out.box1.cell 1; rw [HN.out] at this; exact this }; have y2 : w4.cell? ⟨b2, 0, none⟩ = some (.int .i64 60) := H4.out.box2.cell 0; have y3 : w4.cell? ⟨b2, 1, none⟩ = some (.slice B K d) := by { have := H4.out.box2.cell 1; rw [HK.out] at this; exact this }; clear hb4 x0 x1 x2 x3)
        | (go_at_call 34; ((with_reducible refine (HK5.out _ H4.out).mono ?_); rintro e w5 ⟨A3, c3, rfl, hr5, hb5⟩); have H5 := Lib.hid (H4.out.below hb5); have HA5 := Lib.hid (HA4.out.below hb5); have HR5 := Lib.hid hr5; clear hb5 hr5))
      have hbx := (Below.refl w5.heap.size w5).alloc (Nat.le_refl _) (.cells #[.int .i64 60, .slice A3 M1.length c3] 46)
      have H6 := Lib.hid (H5.out.below hbx)
      have HR6 := Lib.hid (HR5.out.below hbx)
      have HX6 := Lib.hid (Blk.new w5 46 #[.int .i64 60, .slice A3 M1.length c3])
      have HA6 := Lib.hid (HA5.out.below hbx)
      obtain ⟨V6, hV6⟩ : ∃ V6, w5.alloc (.cells #[.int .i64 60, .slice A3 M1.length c3] 46) = V6 := ⟨_, rfl⟩
      obtain ⟨nx, hnx⟩ : ∃ nx, w5.heap.size = nx := ⟨_, rfl⟩
      rw [hV6] at H6 HR6 HX6 HA6
      rw [hnx] at HX6
      rw [hV6, hnx]
      clear hbx hV6 hnx y0 y1 y2 y3 H5 HR5 H4
      go_wp2_with (first
        | (go_at_call 26; ((with_reducible refine (tm_alive H6.out).mono ?_); rintro e w7 ⟨rfl, h7, hb7⟩); have H7 := Lib.hid h7; have HR7 := Lib.hid (HR6.out.below hb7); have HA7 := Lib.hid (HA6.out.below hb7); have HX7 := Lib.hid (HX6.out.below hb7 HX6.out.lt); clear h7 hb7)
        | (go_at_call 29; ((with_reducible refine (number_nil _).mono ?_); rintro e w8 ⟨rfl, hb8⟩); have H8 := Lib.hid (H7.out.below hb8); have HR8 := Lib.hid (HR7.out.below hb8); have HA8 := Lib.hid (HA7.out.below hb8); have HX8 := Lib.hid (HX7.out.below hb8 HX7.out.lt); have u0 : w8.cell? ⟨nx, 0, none⟩ = some (.int .i64 60) := HX8.out.cell 0; have u1 : w8.cell? ⟨nx, 1, none⟩ = some (.slice A3 K1 c3) := by { have := HX8.out.cell 1; rw [HK1.out] at this; exact this }; clear hb8)
        | (go_at_call 30; ((with_reducible refine (nodes_named HK1.out HA8.out HR8.out).mono ?_); rintro e w9 ⟨rfl, hb9⟩); have H9 := Lib.hid (H8.out.below hb9); have v0 : w9.cell? ⟨b1, 0, none⟩ = some (.int .i64 60) := H9.out.box1.cell 0; have v1 : w9.cell? ⟨b1, 1, none⟩ = some (.slice A N c) := by { have := H9.out.box1.cell 1; rw [HN.out] at this; exact this }; clear hb9)
        | (go_at_call 30; ((with_reducible refine (tm_nodes H9.out HN.out).mono ?_); rintro e w10 ⟨rfl, hb10⟩)))
      go_ret
      exact ⟨rfl, hb10⟩
    · have HH := Lib.hid hh
      have HK5 := Lib.hid (fun (W : World) (h : Tm w p A c L B d M b1 b2 W) => tm_rmove h HN.out HK.out HN40.out HK40.out hmv HRM.out)
      obtain ⟨K1, hK1⟩ : ∃ K1, M1.length = K1 := ⟨_, rfl⟩
      have HK1 := Lib.hid hK1
      have HK3 := Lib.hid hk3
      have HCc := Lib.hid hcc
      clear hk3 hcc
      clear hh hmv hK1
      go_upto_region 9 with (first
        | (go_at_call 32; ((with_reducible refine (tm_has H3.out HN.out HH.out).mono ?_); rintro e w4 ⟨rfl, hb4⟩); have H4 := Lib.hid (H3.out.below hb4); have HF4 := Lib.hid (HK3.out.below hb4 HK3.out.lt); have y0 : w4.cell? ⟨b1, 0, none⟩ = some (.int .i64 60) := H4.out.box1.cell 0; have y1 : w4.cell? ⟨b1, 1, none⟩ = some (.slice A N c) := by { have := H4.out.box1.cell 1; rw [HN.out] at this; exact this }; have y2 : w4.cell? ⟨b2, 0, none⟩ = some (.int .i64 60) := H4.out.box2.cell 0; have y3 : w4.cell? ⟨b2, 1, none⟩ = some (.slice B K d) := by { have := H4.out.box2.cell 1; rw [HK.out] at this; exact this }; clear hb4 x0 x1 x2 x3)
        | (go_at_call 34; ((with_reducible refine (HK5.out _ H4.out).mono ?_); rintro e w5 ⟨A3, c3, rfl, hr5, hb5⟩); have H5 := Lib.hid (H4.out.below hb5); have HF5 := Lib.hid (HF4.out.below hb5 HF4.out.lt); have HR5 := Lib.hid hr5; clear hb5 hr5))
      have hbx := (Below.refl w5.heap.size w5).alloc (Nat.le_refl _) (.cells #[.int .i64 60, .slice A3 M1.length c3] 46)
      have H6 := Lib.hid (H5.out.below hbx)
      have HR6 := Lib.hid (HR5.out.below hbx)
      have HX6 := Lib.hid (Blk.new w5 46 #[.int .i64 60, .slice A3 M1.length c3])
      have HF6 := Lib.hid (HF5.out.below hbx HF5.out.lt)
      obtain ⟨V6, hV6⟩ : ∃ V6, w5.alloc (.cells #[.int .i64 60, .slice A3 M1.length c3] 46) = V6 := ⟨_, rfl⟩
      obtain ⟨nx, hnx⟩ : ∃ nx, w5.heap.size = nx := ⟨_, rfl⟩
      rw [hV6] at H6 HR6 HX6 HF6
      rw [hnx] at HX6
      rw [hV6, hnx]
      clear hbx hV6 hnx y0 y1 y2 y3 H5 HR5 H4
      go_wp2_with (first
        | (go_at_call 26; ((with_reducible refine (tm_alive H6.out).mono ?_); rintro e w7 ⟨rfl, h7, hb7⟩); have H7 := Lib.hid h7; have HF7 := Lib.hid (HF6.out.below hb7 HF6.out.lt); clear h7 hb7)
        | (go_at_call 29; ((with_reducible refine (number_fault HF7.out (HE.out.below H7.out.low)).mono ?_); rintro e w8 ⟨rfl, hb8⟩); have H8 := Lib.hid (H7.out.below hb8); have v0 : w8.cell? ⟨b1, 0, none⟩ = some (.int .i64 60) := H8.out.box1.cell 0; have v1 : w8.cell? ⟨b1, 1, none⟩ = some (.slice A N c) := by { have := H8.out.box1.cell 1; rw [HN.out] at this; exact this }; clear hb8)
        | (go_at_call 30; ((with_reducible refine (tm_nodes H8.out HN.out).mono ?_); rintro e w10 ⟨rfl, hb10⟩)))
      go_ret
      exact ⟨rfl, hb10⟩
  · have HB0 := Lib.hid (build_two (c1 := c0) (Below.refl w.heap.size w) hO)
    have HB1 : Hid (∀ W, Below w.heap.size w W → Calls Tryd.prog 25 #[.slice A1 m1 c1] W fun e w' => ∃ pv B d n, e = .returned (.tuple #[pv, .agg #[.int .i64 60, .slice B n d], .bool (decide (m1 ≤ 40))]) ∧ Below w.heap.size w w') := Lib.hid fun W hb => build_two hb hO1
    have e0 : decide ((40 : Int) < (m0 : Int)) = !decide (m0 ≤ 40) := by by_cases h : m0 ≤ 40 <;> simp [h] <;> omega
    have e1 : decide ((40 : Int) < (m1 : Int)) = !decide (m1 ≤ 40) := by by_cases h : m1 ≤ 40 <;> simp [h] <;> omega
    clear hO hO1
    by_cases h0 : m0 ≤ 40
    · have h1 : decide (m1 ≤ 40) = false := decide_eq_false fun h => hm ⟨h0, h⟩
      rw [decide_eq_true h0] at e0 HB0
      rw [h1] at e1 HB1
      clear hm h0 h1
      go_enter Tryd.func6, Tryd.ntmps6
      go_wp2_with (first
        | (go_at_call 25; ((with_reducible refine HB0.out.mono ?_); rintro e w1 ⟨pv, A, c, n, rfl, hb1⟩); have HL1 := Lib.hid (hb1.trans ((Below.refl _ _).alloc hb1.size (.cells #[.int .i64 60, .slice A n c] 46))); clear hb1)
        | (go_at_call 25; ((with_reducible refine (HB1.out _ HL1.out).mono ?_); rintro e w2 ⟨qv, B, d, k, rfl, hb2⟩); have HL2 := Lib.hid (hb2.trans ((Below.refl _ _).alloc hb2.size (.cells #[.int .i64 60, .slice B k d] 46))); clear hb2)
        | (go_at_call 26; ((with_reducible refine (alive_low HL2.out).mono ?_); rintro e w3 ⟨rfl, hb3⟩)))
      go_ret
      exact ⟨rfl, hb3⟩
    · have h0' : decide (m0 ≤ 40) = false := decide_eq_false h0
      rw [h0'] at e0 HB0
      clear hm h0 h0'
      go_enter Tryd.func6, Tryd.ntmps6
      go_wp2_with (first
        | (go_at_call 25; ((with_reducible refine HB0.out.mono ?_); rintro e w1 ⟨pv, A, c, n, rfl, hb1⟩); have HL1 := Lib.hid (hb1.trans ((Below.refl _ _).alloc hb1.size (.cells #[.int .i64 60, .slice A n c] 46))); clear hb1)
        | (go_at_call 25; ((with_reducible refine (HB1.out _ HL1.out).mono ?_); rintro e w2 ⟨qv, B, d, k, rfl, hb2⟩); have HL2 := Lib.hid (hb2.trans ((Below.refl _ _).alloc hb2.size (.cells #[.int .i64 60, .slice B k d] 46))); clear hb2)
        | (go_at_call 26; ((with_reducible refine (alive_low HL2.out).mono ?_); rintro e w3 ⟨rfl, hb3⟩)))
      go_ret
      exact ⟨rfl, hb3⟩
end Go.Proofs.YtlddelnbjihhgaaDoor
