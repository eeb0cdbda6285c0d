/- The parse layer: a type's name, an array's size. -/
import Derived.Test.YteaongdlbleehaaGreatDoorPsSmall
namespace Go.Proofs.YteaongdlbleehaaGreatDoor
open Go.RowKit
attribute [local go_sem] field_at field_tx field_nn
section
variable {B b len k : Nat} {M : Value} {s : PS} {w : World}
set_option maxHeartbeats 6400000 in
set_option maxRecDepth 100000 in
theorem type_any (h : Par B b len M k 0 s w) : Calls Tryz.prog 110 #[.pointer (some ⟨b, 0, none⟩)] w (RetP B b len M k 0 (.string (bA (typeP len s).2)) (typeP len s).1 w) := by
  obtain ⟨bi, hbi⟩ : ∃ q, q = isF len tInt s := ⟨_, rfl⟩
  have HI1 : Hid (∀ w, Par B b len M k 0 s w → Calls Tryz.prog 49 #[.pointer (some ⟨b, 0, none⟩), .string ⟨#[105, 110, 116]⟩] w (fun e w' => e = .returned (.bool bi) ∧ Below w.heap.size w w')) := Lib.hid fun w h => by rw [hbi]; exact is_any tInt h
  obtain ⟨bj, hbj⟩ : ∃ q, q = isF len tBool s := ⟨_, rfl⟩
  have HI2 : Hid (∀ w, Par B b len M k 0 s w → Calls Tryz.prog 49 #[.pointer (some ⟨b, 0, none⟩), .string ⟨#[98, 111, 111, 108]⟩] w (fun e w' => e = .returned (.bool bj) ∧ Below w.heap.size w w')) := Lib.hid fun w h => by rw [hbj]; exact is_any tBool h
  have HP := Lib.hid h
  have D0 := Lib.hid (Pd.refl b w)
  have HTk : Hid (∀ w, Par B b len M k 0 s w → Calls Tryz.prog 101 #[.pointer (some ⟨b, 0, none⟩)] w (RetP B b len M k 0 (tkV (nxt len s)) (takeF s) w)) := Lib.hid fun w h => take_any h
  have HNm : Hid (∀ w, Par B b len M k 0 s w → Calls Tryz.prog 90 #[.pointer (some ⟨b, 0, none⟩)] w (RetP B b len M k 0 (.string (bA (nameF len s).2)) (nameF len s).1 w)) := Lib.hid fun w h => name_any h
  have HRes : Hid (typeP len s = if bi || bj then (takeF s, (nxt len s).text) else nameF len s) := Lib.hid (by rw [hbi, hbj]; rfl)
  obtain ⟨r, hr⟩ : ∃ q, q = nameF len s := ⟨_, rfl⟩
  obtain ⟨t, ht⟩ : ∃ q, q = nxt len s := ⟨_, rfl⟩
  rw [← hr] at HNm HRes
  rw [← ht] at HTk HRes
  clear hbi hbj hr ht h
  go_enter Tryz.func110, Tryz.ntmps110
  cases bi
  · cases bj
    · go_wp2_with (first
        | (go_at_call 49; have HY := HI1.out _ HP.out; (with_reducible refine HY.mono ?_); clear HY; rintro e w1 ⟨rfl, hq⟩; have P1 := Lib.hid (HP.out.below hq); have D1 := Lib.hid (D0.out.then_ hq); clear hq)
        | (go_at_call 49; have HY := HI2.out _ P1.out; (with_reducible refine HY.mono ?_); clear HY; rintro e w2 ⟨rfl, hq⟩; have P2 := Lib.hid (P1.out.below hq); have D2 := Lib.hid (D1.out.then_ hq); clear hq)
        | (go_at_call 90; have HY := HNm.out _ P2.out; (with_reducible refine HY.mono ?_); clear HY; rintro e w3 ⟨rfl, hp, hd⟩; have P3 := Lib.hid hp; have D3 := Lib.hid (D2.out.trans hd); clear hp hd))
      go_ret
      exact ⟨by rw [HRes.out]; rfl, by rw [HRes.out]; exact P3.out, D3.out⟩
    · go_wp2_with (first
        | (go_at_call 49; have HY := HI1.out _ HP.out; (with_reducible refine HY.mono ?_); clear HY; rintro e w1 ⟨rfl, hq⟩; have P1 := Lib.hid (HP.out.below hq); have D1 := Lib.hid (D0.out.then_ hq); clear hq)
        | (go_at_call 49; have HY := HI2.out _ P1.out; (with_reducible refine HY.mono ?_); clear HY; rintro e w2 ⟨rfl, hq⟩; have P2 := Lib.hid (P1.out.below hq); have D2 := Lib.hid (D1.out.then_ hq); clear hq)
        | (go_at_call 101; have HY := HTk.out _ P2.out; (with_reducible refine HY.mono ?_); clear HY; rintro e w3 ⟨rfl, hp, hd⟩; have P3 := Lib.hid hp; have D3 := Lib.hid (D2.out.trans hd); clear hp hd))
      go_ret
      exact ⟨by rw [HRes.out]; rfl, by rw [HRes.out]; exact P3.out, D3.out⟩
  · go_wp2_with (first
      | (go_at_call 49; have HY := HI1.out _ HP.out; (with_reducible refine HY.mono ?_); clear HY; rintro e w1 ⟨rfl, hq⟩; have P1 := Lib.hid (HP.out.below hq); have D1 := Lib.hid (D0.out.then_ hq); clear hq)
      | (go_at_call 101; have HY := HTk.out _ P1.out; (with_reducible refine HY.mono ?_); clear HY; rintro e w3 ⟨rfl, hp, hd⟩; have P3 := Lib.hid hp; have D3 := Lib.hid (D1.out.trans hd); clear hp hd))
    go_ret
    exact ⟨by rw [HRes.out]; rfl, by rw [HRes.out]; exact P3.out, D3.out⟩
set_option maxHeartbeats 6400000 in
set_option maxRecDepth 100000 in
theorem size_any (h : Par B b len M k 0 s w) : Calls Tryz.prog 111 #[.pointer (some ⟨b, 0, none⟩)] w (RetP B b len M k 0 (.int .i64 ((sizeP len s).2 : Int)) (sizeP len s).1 w) := by
  have HP := Lib.hid h
  have HNx : Hid (∀ w, Par B b len M k 0 s w → Calls Tryz.prog 86 #[.pointer (some ⟨b, 0, none⟩)] w fun e w' => e = .returned (tkV (nxt len s)) ∧ Below w.heap.size w w') := Lib.hid fun w h => next_any h
  have HTk : Hid (∀ w, Par B b len M k 0 s w → Calls Tryz.prog 101 #[.pointer (some ⟨b, 0, none⟩)] w (RetP B b len M k 0 (tkV (nxt len s)) (takeF s) w)) := Lib.hid fun w h => take_any h
  have HFl : Hid (∀ w, Par B b len M k 0 s w → Calls Tryz.prog 48 #[.pointer (some ⟨b, 0, none⟩), .int .i64 130] w (RetP B b len M k 0 (.tuple #[]) (failF len 130 s) w)) := Lib.hid fun w h => fail_p h
  have hnil := (fail_nil (len := len) 130 h.good (by decide)).1
  have HTb : Hid (∀ w, Par B b len M k 0 (failF len 130 s) w → Calls Tryz.prog 101 #[.pointer (some ⟨b, 0, none⟩)] w (RetP B b len M k 0 (tkV ⟨2, [], 0, len⟩) (failF len 130 s) w)) := Lib.hid fun w h => by
    have e1 : nxt len (failF len 130 s) = ⟨2, [], 0, len⟩ := by unfold nxt; rw [hnil]
    have e2 : takeF (failF len 130 s) = failF len 130 s := by
      generalize failF len 130 s = q at hnil
      unfold takeF
      rw [hnil]
      cases q
      simp at hnil
      rw [hnil]; rfl
    have := take_any h
    rw [e1, e2] at this
    exact this
  obtain ⟨t, ht⟩ : ∃ q, q = nxt len s := ⟨_, rfl⟩
  rw [← ht] at HNx HTk
  by_cases hk : t.kind = 1
  · have g0 : ((t.kind : Int) == 1) = true := by rw [hk]; rfl
    have g1 : ((t.kind : Int) != 1) = false := by rw [hk]; rfl
    by_cases hn : 1 ≤ t.n
    · have g2 : decide ((t.n : Int) < 1) = false := decide_eq_false (by omega)
      have HRes : Hid (sizeP len s = (takeF s, t.n)) := Lib.hid (by unfold sizeP; rw [← ht, if_pos ⟨hk, hn⟩])
      clear ht hk hn h hnil
      go_enter Tryz.func111, Tryz.ntmps111
      go_upto_region 2 with (go_at_call 86; have HY := HNx.out _ HP.out; (with_reducible refine HY.mono ?_); clear HY; rintro e w1 ⟨rfl, hq⟩; have P1 := Lib.hid (HP.out.below hq); have D1 := Lib.hid (Pd.of_below hq b); clear hq)
      obtain ⟨W2, hW2⟩ : ∃ q, q = w1.alloc (.cells #[.int .i64 (t.kind : Int), .string (bA t.text), .int .i64 (t.n : Int), .int .i64 (t.at_ : Int)] 49) := ⟨_, rfl⟩
      have E2 : Hid (Below w1.heap.size w1 W2) := Lib.hid (by rw [hW2]; exact (Below.refl _ _).alloc (Nat.le_refl _) _)
      have P2 := Lib.hid (P1.out.below E2.out)
      have D2 := Lib.hid (D1.out.then_ E2.out)
      have T2 : Hid (Blk W2 w1.heap.size 49 #[.int .i64 (t.kind : Int), .string (bA t.text), .int .i64 (t.n : Int), .int .i64 (t.at_ : Int)]) := Lib.hid (by rw [hW2]; exact Blk.new w1 _ _)
      rw [← hW2]
      clear hW2
      have t0 := T2.out.cell 0
      have t2 := T2.out.cell 2
      simp at t0 t2
      go_wp2_with (go_at_call 101; have HY := HTk.out _ P2.out; (with_reducible refine HY.mono ?_); clear HY; rintro e w4 ⟨rfl, hp, hd⟩; have P4 := Lib.hid hp; have D4 := Lib.hid (D2.out.trans hd); clear hp hd)
      go_ret
      exact ⟨by rw [HRes.out]; rfl, by rw [HRes.out]; exact P4.out, D4.out⟩
    · have g2 : decide ((t.n : Int) < 1) = true := decide_eq_true (by omega)
      have HRes : Hid (sizeP len s = (failF len 130 s, 0)) := Lib.hid (by unfold sizeP; rw [← ht, if_neg (fun q => hn q.2)])
      clear ht hk hn h hnil
      go_enter Tryz.func111, Tryz.ntmps111
      go_upto_region 2 with (go_at_call 86; have HY := HNx.out _ HP.out; (with_reducible refine HY.mono ?_); clear HY; rintro e w1 ⟨rfl, hq⟩; have P1 := Lib.hid (HP.out.below hq); have D1 := Lib.hid (Pd.of_below hq b); clear hq)
      obtain ⟨W2, hW2⟩ : ∃ q, q = w1.alloc (.cells #[.int .i64 (t.kind : Int), .string (bA t.text), .int .i64 (t.n : Int), .int .i64 (t.at_ : Int)] 49) := ⟨_, rfl⟩
      have E2 : Hid (Below w1.heap.size w1 W2) := Lib.hid (by rw [hW2]; exact (Below.refl _ _).alloc (Nat.le_refl _) _)
      have P2 := Lib.hid (P1.out.below E2.out)
      have D2 := Lib.hid (D1.out.then_ E2.out)
      have T2 : Hid (Blk W2 w1.heap.size 49 #[.int .i64 (t.kind : Int), .string (bA t.text), .int .i64 (t.n : Int), .int .i64 (t.at_ : Int)]) := Lib.hid (by rw [hW2]; exact Blk.new w1 _ _)
      rw [← hW2]
      clear hW2
      have t0 := T2.out.cell 0
      have t2 := T2.out.cell 2
      simp at t0 t2
      go_upto_region 4 with (go_at_call 48; have HY := HFl.out _ P2.out; (with_reducible refine HY.mono ?_); clear HY; rintro e w3 ⟨rfl, hp, hd⟩; have P3 := Lib.hid hp; have D3 := Lib.hid (D2.out.trans hd); clear hp hd)
      clear t0 t2
      go_wp2_with (go_at_call 101; have HY := HTb.out _ P3.out; (with_reducible refine HY.mono ?_); clear HY; rintro e w4 ⟨rfl, hp, hd⟩; have P4 := Lib.hid hp; have D4 := Lib.hid (D3.out.trans hd); clear hp hd)
      go_ret
      exact ⟨by rw [HRes.out]; rfl, by rw [HRes.out]; exact P4.out, D4.out⟩
  · have g0 : ((t.kind : Int) == 1) = false := by simp; omega
    have g1 : ((t.kind : Int) != 1) = true := by simp; omega
    have HRes : Hid (sizeP len s = (failF len 130 s, 0)) := Lib.hid (by unfold sizeP; rw [← ht, if_neg (fun q => hk q.1)])
    clear ht hk h hnil
    go_enter Tryz.func111, Tryz.ntmps111
    go_upto_region 2 with (go_at_call 86; have HY := HNx.out _ HP.out; (with_reducible refine HY.mono ?_); clear HY; rintro e w1 ⟨rfl, hq⟩; have P1 := Lib.hid (HP.out.below hq); have D1 := Lib.hid (Pd.of_below hq b); clear hq)
    obtain ⟨W2, hW2⟩ : ∃ q, q = w1.alloc (.cells #[.int .i64 (t.kind : Int), .string (bA t.text), .int .i64 (t.n : Int), .int .i64 (t.at_ : Int)] 49) := ⟨_, rfl⟩
    have E2 : Hid (Below w1.heap.size w1 W2) := Lib.hid (by rw [hW2]; exact (Below.refl _ _).alloc (Nat.le_refl _) _)
    have P2 := Lib.hid (P1.out.below E2.out)
    have D2 := Lib.hid (D1.out.then_ E2.out)
    have T2 : Hid (Blk W2 w1.heap.size 49 #[.int .i64 (t.kind : Int), .string (bA t.text), .int .i64 (t.n : Int), .int .i64 (t.at_ : Int)]) := Lib.hid (by rw [hW2]; exact Blk.new w1 _ _)
    rw [← hW2]
    clear hW2
    have t0 := T2.out.cell 0
    have t2 := T2.out.cell 2
    simp at t0 t2
    go_upto_region 4 with (go_at_call 48; have HY := HFl.out _ P2.out; (with_reducible refine HY.mono ?_); clear HY; rintro e w3 ⟨rfl, hp, hd⟩; have P3 := Lib.hid hp; have D3 := Lib.hid (D2.out.trans hd); clear hp hd)
    clear t0 t2
    go_wp2_with (go_at_call 101; have HY := HTb.out _ P3.out; (with_reducible refine HY.mono ?_); clear HY; rintro e w4 ⟨rfl, hp, hd⟩; have P4 := Lib.hid hp; have D4 := Lib.hid (D3.out.trans hd); clear hp hd)
    go_ret
    exact ⟨by rw [HRes.out]; rfl, by rw [HRes.out]; exact P4.out, D4.out⟩
/-- While a method goes: its result's box. -/
structure BX (B b len : Nat) (M : Value) (k : Nat) (w : World) (T : TypeId) (cs : Array Value) (s : PS) (W : World) : Prop where
  par : Par B b len M k 0 s W
  pd : Pd b w W
  r : Blk W w.heap.size T cs
  hb : b < w.heap.size
theorem BX.new (h : Par B b len M k 0 s w) (T : TypeId) (cs : Array Value) : BX B b len M k w T cs s (w.alloc (.cells cs T)) := ⟨h.alloc _, (Pd.refl b w).alloc _, Blk.new w _ _, h.lt⟩
theorem BX.step {T : TypeId} {cs : Array Value} {s' : PS} {W W' : World} (h : BX B b len M k w T cs s W) (hp : Par B b len M k 0 s' W') (hd : Pd b W W') : BX B b len M k w T cs s' W' :=
  ⟨hp, h.pd.trans hd, hd.blk h.r (Nat.ne_of_gt h.hb), h.hb⟩
theorem BX.below {T : TypeId} {cs : Array Value} {W W' : World} (h : BX B b len M k w T cs s W) (hb : Below W.heap.size W W') : BX B b len M k w T cs s W' := h.step (h.par.below hb) (Pd.of_below hb b)
theorem BX.far {T : TypeId} {cs : Array Value} {W : World} (h : BX B b len M k w T cs s W) {p : Addr} (hp : w.heap.size < p.block) (u : Value) : BX B b len M k w T cs s (W.setCell p u) :=
  ⟨h.par.far (by have := h.hb; omega) (by have := h.hb; have := h.par.lo; omega) _, h.pd.fresh (by omega) _, h.r.far (by omega) _, h.hb⟩
theorem BX.set_ {T : TypeId} {cs : Array Value} {W : World} (h : BX B b len M k w T cs s W) (i : Nat) (u : Value) : BX B b len M k w T (cs.setIfInBounds i u) s (W.setCell ⟨w.heap.size, i, none⟩ u) :=
  ⟨h.par.far (p := ⟨w.heap.size, i, none⟩) (Nat.ne_of_lt h.hb) (Nat.le_trans h.par.lo (Nat.le_of_lt h.hb)) _, h.pd.fresh (p := ⟨w.heap.size, i, none⟩) (Nat.le_refl _) _, h.r.set_ i u, h.hb⟩
set_option maxHeartbeats 6400000 in
set_option maxRecDepth 100000 in
theorem variable_any (h : Par B b len M k 0 s w) : Calls Tryz.prog 89 #[.pointer (some ⟨b, 0, none⟩)] w (RetP B b len M k 0 (.agg #[.string (varP len s).2.1, .string (varP len s).2.2.1, .int .i64 (varP len s).2.2.2]) (varP len s).1 w) := by
  obtain ⟨a, ha⟩ : ∃ q, q = nameF len s := ⟨_, rfl⟩
  have HNm : Hid (∀ w, Par B b len M k 0 s w → Calls Tryz.prog 90 #[.pointer (some ⟨b, 0, none⟩)] w (RetP B b len M k 0 (.string (bA a.2)) a.1 w)) := Lib.hid fun w h => by rw [ha]; exact name_any h
  obtain ⟨p1, hp1⟩ : ∃ q, q = expF len [58] a.1 := ⟨_, rfl⟩
  have HX1 : Hid (∀ w, Par B b len M k 0 a.1 w → Calls Tryz.prog 51 #[.pointer (some ⟨b, 0, none⟩), .string ⟨#[58]⟩] w (RetP B b len M k 0 (.tuple #[]) p1 w)) := Lib.hid fun w h => by rw [hp1]; exact expect_any [58] h
  obtain ⟨c, hc⟩ : ∃ q, q = typeP len p1 := ⟨_, rfl⟩
  have HTy : Hid (∀ w, Par B b len M k 0 p1 w → Calls Tryz.prog 110 #[.pointer (some ⟨b, 0, none⟩)] w (RetP B b len M k 0 (.string (bA c.2)) c.1 w)) := Lib.hid fun w h => by rw [hc]; exact type_any h
  obtain ⟨bi, hbi⟩ : ∃ q, q = isF len [91] c.1 := ⟨_, rfl⟩
  have HSk : Hid (∀ w, Par B b len M k 0 c.1 w → Calls Tryz.prog 87 #[.pointer (some ⟨b, 0, none⟩), .string ⟨#[91]⟩] w (RetP B b len M k 0 (.bool bi) (if bi then takeF c.1 else c.1) w)) := Lib.hid fun w h => by
    have := skip_any [91] h
    unfold skipF at this
    rw [← hbi] at this
    exact this
  obtain ⟨z, hz⟩ : ∃ q, q = sizeP len (takeF c.1) := ⟨_, rfl⟩
  have HSz : Hid (∀ w, Par B b len M k 0 (takeF c.1) w → Calls Tryz.prog 111 #[.pointer (some ⟨b, 0, none⟩)] w (RetP B b len M k 0 (.int .i64 (z.2 : Int)) z.1 w)) := Lib.hid fun w h => by rw [hz]; exact size_any h
  obtain ⟨p2, hp2⟩ : ∃ q, q = expF len [93] z.1 := ⟨_, rfl⟩
  have HX2 : Hid (∀ w, Par B b len M k 0 z.1 w → Calls Tryz.prog 51 #[.pointer (some ⟨b, 0, none⟩), .string ⟨#[93]⟩] w (RetP B b len M k 0 (.tuple #[]) p2 w)) := Lib.hid fun w h => by rw [hp2]; exact expect_any [93] h
  obtain ⟨p3, hp3⟩ : ∃ q, q = expF len [59] p2 := ⟨_, rfl⟩
  have HX3 : Hid (∀ w, Par B b len M k 0 p2 w → Calls Tryz.prog 51 #[.pointer (some ⟨b, 0, none⟩), .string ⟨#[59]⟩] w (RetP B b len M k 0 (.tuple #[]) p3 w)) := Lib.hid fun w h => by rw [hp3]; exact expect_any [59] h
  obtain ⟨p4, hp4⟩ : ∃ q, q = expF len [59] c.1 := ⟨_, rfl⟩
  have HX4 : Hid (∀ w, Par B b len M k 0 c.1 w → Calls Tryz.prog 51 #[.pointer (some ⟨b, 0, none⟩), .string ⟨#[59]⟩] w (RetP B b len M k 0 (.tuple #[]) p4 w)) := Lib.hid fun w h => by rw [hp4]; exact expect_any [59] h
  obtain ⟨NM, hNM⟩ : ∃ q, q = bA a.2 := ⟨_, rfl⟩
  obtain ⟨TY, hTY⟩ : ∃ q, q = bA c.2 := ⟨_, rfl⟩
  have HRes : Hid (varP len s = if bi then (p3, (NM, TY, (z.2 : Int))) else (p4, (NM, TY, 0))) := Lib.hid (by rw [hp3, hp2, hz, hp4, hbi, hNM, hTY, hc, hp1, ha]; rfl)
  rw [← hNM] at HNm
  rw [← hTY] at HTy
  obtain ⟨W0, hW0⟩ : ∃ W0, W0 = w.alloc (.cells #[.string ⟨#[]⟩, .string ⟨#[]⟩, .int .i64 0] 70) := ⟨_, rfl⟩
  have S0 : Hid (BX B b len M k w 70 #[.string ⟨#[]⟩, .string ⟨#[]⟩, .int .i64 0] s W0) := Lib.hid (by rw [hW0]; exact BX.new h _ _)
  have HW0 := Lib.hid hW0
  clear hW0 h ha hp1 hc hbi hz hp2 hp3 hp4 hNM hTY
  go_enter Tryz.func89, Tryz.ntmps89
  go_upto_region 1 with fail
  rw [← HW0.out]
  go_upto_region 2 with (go_at_call 90; have HY := HNm.out _ S0.out.par; (with_reducible refine HY.mono ?_); clear HY; rintro e w1 ⟨rfl, hp, hd⟩; have S1 := Lib.hid (S0.out.step hp hd); clear hp hd)
  obtain ⟨g3, hg3⟩ : ∃ q, q = w1.heap.size := ⟨_, rfl⟩
  obtain ⟨W2, hW2⟩ : ∃ q, q = w1.alloc (.cells #[.string NM, .string ⟨#[]⟩, .int .i64 0] 70) := ⟨_, rfl⟩
  have E2 : Hid (Below w1.heap.size w1 W2) := Lib.hid (by rw [hW2]; exact (Below.refl _ _).alloc (Nat.le_refl _) _)
  have S2 := Lib.hid (S1.out.below E2.out)
  have T2 : Hid (Blk W2 g3 70 #[.string NM, .string ⟨#[]⟩, .int .i64 0]) := Lib.hid (by rw [hW2, hg3]; exact Blk.new w1 _ _)
  have HG : Hid (w.heap.size < g3 ∧ b < g3) := Lib.hid (by rw [hg3]; exact ⟨S1.out.r.lt, Nat.lt_trans S1.out.hb S1.out.r.lt⟩)
  rw [← hW2, ← hg3]
  clear hW2 hg3
  go_upto_region 3 with (go_at_call 51; have HY := HX1.out _ S2.out.par; (with_reducible refine HY.mono ?_); clear HY; rintro e w3 ⟨rfl, hp, hd⟩; have S3 := Lib.hid (S2.out.step hp hd); have T3 := Lib.hid (hd.blk T2.out (Nat.ne_of_gt HG.out.2)); clear hp hd)
  go_upto_region 4 with (go_at_call 110; have HY := HTy.out _ S3.out.par; (with_reducible refine HY.mono ?_); clear HY; rintro e w4 ⟨rfl, hp, hd⟩; have S4 := Lib.hid (S3.out.step hp hd); have T4 := Lib.hid (hd.blk T3.out (Nat.ne_of_gt HG.out.2)); have t0 := T4.out.cell 0; have t1 := T4.out.cell 1; have t2 := T4.out.cell 2; have tf0 := T4.out.frozen 0; have tf1 := T4.out.frozen 1; have tf2 := T4.out.frozen 2; have tl := T4.out.lt; simp at t0 t1 t2; clear hp hd)
  obtain ⟨w5, hw5⟩ : ∃ q, q = w4.setCell ⟨g3, 1, none⟩ (.string TY) := ⟨_, rfl⟩
  have S5 : Hid (BX B b len M k w 70 #[.string ⟨#[]⟩, .string ⟨#[]⟩, .int .i64 0] c.1 w5) := Lib.hid (by rw [hw5]; exact S4.out.far (p := ⟨g3, 1, none⟩) HG.out.1 _)
  have T5 : Hid (Blk w5 g3 70 #[.string NM, .string TY, .int .i64 0]) := Lib.hid (by rw [hw5]; exact T4.out.set_ 1 _)
  rw [← hw5]
  clear hw5 t0 tf0 t1 tf1 t2 tf2 tl
  cases bi
  · go_upto_region 7 with (go_at_call 87; have HY := HSk.out _ S5.out.par; (with_reducible refine HY.mono ?_); clear HY; rintro e w6 ⟨rfl, hp, hd⟩; have S6 := Lib.hid (S5.out.step hp hd); have T6 := Lib.hid (hd.blk T5.out (Nat.ne_of_gt HG.out.2)); clear hp hd)
    go_upto_region 8 with (go_at_call 51; have HY := HX4.out _ S6.out.par; (with_reducible refine HY.mono ?_); clear HY; rintro e w7 ⟨rfl, hp, hd⟩; have S7 := Lib.hid (S6.out.step hp hd); have T7 := Lib.hid (hd.blk T6.out (Nat.ne_of_gt HG.out.2)); clear hp hd)
    have t0 := T7.out.cell 0
    have t1 := T7.out.cell 1
    have t2 := T7.out.cell 2
    simp at t0 t1 t2
    have r0 := S7.out.r.cell 0
    have r1 := S7.out.r.cell 1
    have r2 := S7.out.r.cell 2
    have rf0 := S7.out.r.frozen 0
    have rf1 := S7.out.r.frozen 1
    have rf2 := S7.out.r.frozen 2
    have rl := S7.out.r.lt
    simp at r0 r1 r2
    go_wp2
    have F := ((S7.out.set_ 0 (.string NM)).set_ 1 (.string TY)).set_ 2 (.int .i64 0)
    have q0 := F.r.cell 0
    have q1 := F.r.cell 1
    have q2 := F.r.cell 2
    simp at q0 q1 q2
    rw [HRes.out]
    exact bodyPost_ret (v := .agg #[.string NM, .string TY, .int .i64 0]) (by simp [results, Tryz.results89, go_sem, q0, q1, q2]) rfl ⟨rfl, F.par, F.pd⟩
  · go_upto_region 5 with (go_at_call 87; have HY := HSk.out _ S5.out.par; (with_reducible refine HY.mono ?_); clear HY; rintro e w6 ⟨rfl, hp, hd⟩; have S6 := Lib.hid (S5.out.step hp hd); have T6 := Lib.hid (hd.blk T5.out (Nat.ne_of_gt HG.out.2)); clear hp hd)
    go_upto_region 6 with (go_at_call 111; have HY := HSz.out _ S6.out.par; (with_reducible refine HY.mono ?_); clear HY; rintro e w7 ⟨rfl, hp, hd⟩; have S7 := Lib.hid (S6.out.step hp hd); have T7 := Lib.hid (hd.blk T6.out (Nat.ne_of_gt HG.out.2)); have t0 := T7.out.cell 0; have t1 := T7.out.cell 1; have t2 := T7.out.cell 2; have tf0 := T7.out.frozen 0; have tf1 := T7.out.frozen 1; have tf2 := T7.out.frozen 2; have tl := T7.out.lt; simp at t0 t1 t2; clear hp hd)
    obtain ⟨w8, hw8⟩ : ∃ q, q = w7.setCell ⟨g3, 2, none⟩ (.int .i64 (z.2 : Int)) := ⟨_, rfl⟩
    have S8 : Hid (BX B b len M k w 70 #[.string ⟨#[]⟩, .string ⟨#[]⟩, .int .i64 0] z.1 w8) := Lib.hid (by rw [hw8]; exact S7.out.far (p := ⟨g3, 2, none⟩) HG.out.1 _)
    have T8 : Hid (Blk w8 g3 70 #[.string NM, .string TY, .int .i64 (z.2 : Int)]) := Lib.hid (by rw [hw8]; exact T7.out.set_ 2 _)
    rw [← hw8]
    clear hw8 t0 tf0 t1 tf1 t2 tf2 tl
    go_upto_region 7 with (go_at_call 51; have HY := HX2.out _ S8.out.par; (with_reducible refine HY.mono ?_); clear HY; rintro e w9 ⟨rfl, hp, hd⟩; have S9 := Lib.hid (S8.out.step hp hd); have T9 := Lib.hid (hd.blk T8.out (Nat.ne_of_gt HG.out.2)); clear hp hd)
    go_upto_region 8 with (go_at_call 51; have HY := HX3.out _ S9.out.par; (with_reducible refine HY.mono ?_); clear HY; rintro e w10 ⟨rfl, hp, hd⟩; have S10 := Lib.hid (S9.out.step hp hd); have T10 := Lib.hid (hd.blk T9.out (Nat.ne_of_gt HG.out.2)); clear hp hd)
    have t0 := T10.out.cell 0
    have t1 := T10.out.cell 1
    have t2 := T10.out.cell 2
    simp at t0 t1 t2
    have r0 := S10.out.r.cell 0
    have r1 := S10.out.r.cell 1
    have r2 := S10.out.r.cell 2
    have rf0 := S10.out.r.frozen 0
    have rf1 := S10.out.r.frozen 1
    have rf2 := S10.out.r.frozen 2
    have rl := S10.out.r.lt
    simp at r0 r1 r2
    go_wp2
    have F := ((S10.out.set_ 0 (.string NM)).set_ 1 (.string TY)).set_ 2 (.int .i64 (z.2 : Int))
    have q0 := F.r.cell 0
    have q1 := F.r.cell 1
    have q2 := F.r.cell 2
    simp at q0 q1 q2
    rw [HRes.out]
    exact bodyPost_ret (v := .agg #[.string NM, .string TY, .int .i64 (z.2 : Int)]) (by simp [results, Tryz.results89, go_sem, q0, q1, q2]) rfl ⟨rfl, F.par, F.pd⟩
end
end Go.Proofs.YteaongdlbleehaaGreatDoor
