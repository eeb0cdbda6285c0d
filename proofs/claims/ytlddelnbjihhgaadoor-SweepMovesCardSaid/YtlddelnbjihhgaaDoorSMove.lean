/- The contract of move: what is moved, and what is kept of it, whatever was moved before. -/
import Derived.Test.YtlddelnbjihhgaaDoorCBase
import Derived.Test.YtlddelnbjihhgaaDoorSMathC
import Derived.Shelf.Abstract
namespace Go.Proofs.YtlddelnbjihhgaaDoor
open Go.RowKit
attribute [local go_sem ↓] Go.wp_at_zero Go.wp_at_succ

/-- How many nodes are moved below a ref, at most. -/
def costP (L : List Nd) (r : Int) : Nat := fold L (fun _ => 0) (fun _ a b => a + b + 1) r
theorem costP_node {L : List Nd} (hR : RightL L) {k : Nat} {x1 x2 x3 : Int} (h : L[k]? = some (x1, x2, x3)) : costP L (k : Int) = costP L x2 + costP L x3 + 1 := fold_node hR h
theorem cost_few {L : List Nd} (hR : RightL L) : ∀ r, costP L r + 1 ≤ 2 ^ (12 - varP L r).toNat := by
  refine down hR (fun r hr => ?_) fun k x hx _ _ h2 h3 => ?_
  · rw [show costP L r = 0 from fold_out hr]
    exact Nat.one_le_two_pow
  · obtain ⟨x1, x2, x3⟩ := x
    obtain ⟨⟨v0, v1⟩, -, ⟨-, l2⟩, -, l3⟩ := hR.1 _ _ hx
    dsimp only at v0 v1 l2 l3 h2 h3
    rw [costP_node hR hx, varP_at hx]
    dsimp only
    obtain ⟨u, hu⟩ : ∃ u, (12 - x1).toNat = u + 1 := ⟨(12 - x1).toNat - 1, by omega⟩
    have p2 : 2 ^ (12 - varP L x2).toNat ≤ 2 ^ u := Nat.pow_le_pow_right (by omega) (by omega)
    have p3 : 2 ^ (12 - varP L x3).toNat ≤ 2 ^ u := Nat.pow_le_pow_right (by omega) (by omega)
    rw [hu, Nat.pow_succ]
    omega
theorem cost_lt {L : List Nd} (hR : RightL L) (r : Int) : costP L r < 4096 := by
  have h := cost_few hR r
  have h0 := varP_nonneg hR r
  have : 2 ^ (12 - varP L r).toNat ≤ 2 ^ 12 := Nat.pow_le_pow_right (by omega) (by omega)
  omega
/-- Where there is an error no ref is told. -/
theorem mv_zero {lim : Nat} {L : List Nd} (hR : RightL L) : ∀ (r : Int) (M M1 : List Nd) (y c : Int), mvP lim L r M = (M1, y, c) → c ≠ 0 → y = 0 := by
  have th : ∀ (s : List Nd × Int × Int) (k : List Nd → Int → List Nd × Int × Int), ((thenP s k).2.2 ≠ 0 → (k s.1 s.2.1).2.2 ≠ 0 → (k s.1 s.2.1).2.1 = 0) → (thenP s k).2.2 ≠ 0 → (thenP s k).2.1 = 0 := fun s k hk h => by
    unfold thenP at h hk ⊢
    split
    · rename_i h0
      rw [if_pos h0] at h hk
      exact hk h h
    · rfl
  have mk : ∀ (M : List Nd) (v l h : Int), (mkP lim M v l h).2.2 ≠ 0 → (mkP lim M v l h).2.1 = 0 := fun M v l h => by
    unfold mkP
    repeat' split
    all_goals (intro g; first | rfl | exact absurd rfl g)
  intro r M M1 y c hm hc
  by_cases hr : 0 ≤ r ∧ r < (L.length : Int)
  · obtain ⟨k, rfl⟩ : ∃ k : Nat, r = (k : Int) := ⟨r.toNat, by omega⟩
    have hx : L[k]? = some L[k] := List.getElem?_eq_getElem (by omega)
    have e : (mvP lim L (k : Int) M).2.2 ≠ 0 → (mvP lim L (k : Int) M).2.1 = 0 := by
      rw [mv_node hR hx]
      exact th _ _ fun _ => th _ _ fun _ => mk _ _ _ _
    rw [hm] at e
    exact e hc
  · rw [mv_out hr] at hm
    simp only [Prod.mk.injEq] at hm
    exact absurd hm.2.2.symm hc

/-- What stays while diagrams are moved: where from and where to, the boxes, and what there was at first. -/
structure Cx where
  ownF : Nat → Prop
  p : Nat
  limF : Nat
  L : List Nd
  q : Nat
  lim : Nat
  mb : Nat
  bm : Nat
  M0 : List Nd
structure St (C : Cx) (W : World) (ownT : Nat → Prop) (n : Nat) (g : Int → Option Int) (M : List Nd) : Prop where
  src : Arena W C.ownF C.p C.limF C.L
  dst : Arena W ownT C.q C.lim M
  box : Blk W C.mb 101 #[.pointer (some ⟨C.p, 0, none⟩), .pointer (some ⟨C.q, 0, none⟩), .map (some C.bm)]
  map : IntM W C.bm n g
  dF : ∀ i, C.ownF i → ¬ ownT i
  dFm : ¬ C.ownF C.bm
  dTm : ¬ ownT C.bm
  dTb : ¬ ownT C.mb
  sound : ∀ (k : Int) x, g k = some x → mvP C.lim C.L k M = (M, x, 0)
  came : Came C.lim C.L C.M0 M
  room : C.M0.length + C.L.length ≤ 3999
theorem ne_map {w : World} {b n g0 : Nat} {g : Int → Option Int} {t : TypeId} {cs : Array Value} (h : IntM w b n g) (hb : Blk w g0 t cs) : ¬ g0 = b := by
  rintro rfl
  obtain ⟨D, ⟨es, clock, hh, -⟩, -⟩ := h
  unfold Blk at hb
  rw [hh] at hb
  cases hb
section
variable {C : Cx} {W W1 : World} {ownT : Nat → Prop} {n : Nat} {g : Int → Option Int} {M : List Nd}
theorem St.rightF (h : St C W ownT n g M) : RightL C.L := h.src.right
theorem St.rightT (h : St C W ownT n g M) : RightL M := h.dst.right
theorem St.below (h : St C W ownT n g M) (hb : Below W.heap.size W W1) : St C W1 ownT n g M :=
  ⟨h.src.below hb, h.dst.below hb, h.box.below hb h.box.lt, h.map.below hb h.map.lt, h.dF, h.dFm, h.dTm, h.dTb, h.sound, h.came, h.room⟩
theorem St.few (h : St C W ownT n g M) : M.length + 1 ≤ 4000 := by have := came_len h.came; have := h.room; omega
/-- Where a move's parts lie: among what was the target's, the map, and what is new. -/
def Oth (ownT : Nat → Prop) (C : Cx) (W W' : World) : Prop := Only (fun i => ownT i ∨ i = C.bm) W W'
/-- A node came. -/
theorem St.made {ownT1 : Nat → Prop} {v l h y : Int} {M1 : List Nd} (hs : St C W ownT n g M) (hm : mkP C.lim M v l h = (M1, y, 0)) (hA : Arena W1 ownT1 C.q C.lim M1) (ho : Only ownT W W1) (hw : ∀ i, ownT1 i → ownT i ∨ W.heap.size ≤ i) (hc : Came C.lim C.L C.M0 M1) : St C W1 ownT1 n g M1 := by
  have hM1 := hA.right
  obtain ⟨X, rfl⟩ : ∃ X, M1 = M ++ X := by have := mkP_more C.lim M v l h; rwa [hm] at this
  have nF : ∀ i, C.ownF i → ¬ ownT1 i := fun i hi h1 => (hw i h1).elim (hs.dF i hi) fun h => by have := hs.src.old i hi; omega
  exact ⟨hs.src.only ho hs.dF, hA, ho.blk hs.box hs.dTb, hs.map.only ho hs.dTm, nF, hs.dFm, fun h => (hw _ h).elim hs.dTm fun h => by have := hs.map.lt; omega, fun h => (hw _ h).elim hs.dTb fun h => by have := hs.box.lt; omega,
    fun k x hx => mv_stay hs.rightF k M M x X hs.rightT (hs.sound k x hx) hM1, hc, hs.room⟩
/-- It is kept in the map. -/
theorem St.put {k x : Int} (hs : St C W ownT n g M) (hm : IntM W1 C.bm (n + 1) (putG g k x)) (hg : W.grownBy W1 (some C.bm)) (hx : mvP C.lim C.L k M = (M, x, 0)) : St C W1 ownT (n + 1) (putG g k x) M := by
  have ho : Only (fun i => i = C.bm) W W1 := Only.of_grown hg fun r e => by simpa using e.symm
  refine ⟨hs.src.only ho fun i hi e => hs.dFm (e ▸ hi), hs.dst.only ho fun i hi e => hs.dTm (e ▸ hi), ho.blk hs.box (ne_map hs.map hs.box), hm, hs.dF, hs.dFm, hs.dTm, hs.dTb, fun j y hy => ?_, hs.came, hs.room⟩
  unfold putG at hy
  split at hy
  · rename_i e
    cases hy
    rw [e]; exact hx
  · exact hs.sound j y hy
end
/-- What move tells: a ref and no error, or none and a Fault. -/
def RetMv (C : Cx) (ownT : Nat → Prop) (n k : Nat) (r : Int) (M : List Nd) (w : World) (e : Ending) (w' : World) : Prop :=
  ∃ M1 y c, mvP C.lim C.L r M = (M1, y, c) ∧ Only (fun i => ownT i ∨ i = C.bm) w w' ∧
    ((c = 0 ∧ e = .returned (.tuple #[.int .i64 y, .nilIface]) ∧ ∃ ownT1 n1 g1, St C w' ownT1 n1 g1 M1 ∧ n1 ≤ n + k ∧ ∀ i, ownT1 i → ownT i ∨ w.heap.size ≤ i) ∨
     (c ≠ 0 ∧ ∃ b v, e = .returned (.tuple #[.int .i64 0, .iface 165 (.pointer (some ⟨b, 0, none⟩))]) ∧ Blk w' b 167 #[.string ⟨#[109, 107]⟩, .int .i64 v, .iface 53 (.int .i64 c)]))
@[reducible] def Moves (C : Cx) (r : Int) : Prop := ∀ W ownT n g M, St C W ownT n g M → n + costP C.L r < maxLen → Calls Tryd.prog 70 #[.pointer (some ⟨C.mb, 0, none⟩), .int .i64 r] W (RetMv C ownT n (costP C.L r) r M W)
section
variable {C : Cx} {W : World} {ownT : Nat → Prop} {n : Nat} {g : Int → Option Int} {M : List Nd}
set_option maxRecDepth 100000 in
set_option maxHeartbeats 1600000 in
theorem move_end (h : St C W ownT n g M) {r : Int} (hr : ¬ (0 ≤ r ∧ r < (C.L.length : Int))) : Calls Tryd.prog 70 #[.pointer (some ⟨C.mb, 0, none⟩), .int .i64 r] W (RetMv C ownT n 0 r M W) := by
  have HG := Lib.hid (arena_getN h.src hr)
  have HS := Lib.hid h
  have HM := Lib.hid (mv_out (lim := C.lim) hr M)
  have c0 : W.cell? ⟨C.mb, 0, none⟩ = some (.pointer (some ⟨C.p, 0, none⟩)) := h.box.cell 0
  clear h hr
  go_enter Tryd.func70, Tryd.ntmps70
  go_wp2_with (first
    | (go_at_call 72; ((with_reducible refine HG.out.mono ?_); rintro e w1 ⟨rfl, hb1⟩); have H1 := Lib.hid hb1; clear hb1))
  go_ret2
  have hb := H1.out.alloc H1.out.size (.cells #[.int .i64 0, .int .i64 0, .int .i64 0] 106)
  exact ⟨M, _, 0, HM.out, Only.of_below hb _, .inl ⟨rfl, rfl, ownT, n, g, HS.out.below hb, Nat.le_refl _, fun i hi => .inl hi⟩⟩
set_option maxRecDepth 100000 in
set_option maxHeartbeats 1600000 in
theorem move_known (h : St C W ownT n g M) {k : Nat} {x : Nd} {y : Int} (hx : C.L[k]? = some x) (hk : I64 (k : Int)) (hg : g (k : Int) = some y) {c : Nat} : Calls Tryd.prog 70 #[.pointer (some ⟨C.mb, 0, none⟩), .int .i64 (k : Int)] W (RetMv C ownT n c (k : Int) M W) := by
  obtain ⟨x1, x2, x3⟩ := x
  have HM := Lib.hid (h.sound _ _ hg)
  have HG := Lib.hid (arena_get h.src hx)
  have HS := Lib.hid h
  have HK := Lib.hid hk
  have HGk := Lib.hid hg
  have c0 : W.cell? ⟨C.mb, 0, none⟩ = some (.pointer (some ⟨C.p, 0, none⟩)) := h.box.cell 0
  clear h hx hk hg
  go_enter Tryd.func70, Tryd.ntmps70
  go_upto_region 4 with (first
    | (go_at_call 72; ((with_reducible refine HG.out.mono ?_); rintro e w1 ⟨rfl, hb1⟩); have H1 := Lib.hid hb1; clear hb1))
  have hb0 : Below W.heap.size W (w1.alloc (.cells #[.int .i64 x1, .int .i64 x2, .int .i64 x3] 106)) := H1.out.alloc H1.out.size _
  have S0 := Lib.hid (HS.out.below hb0)
  have HB0 := Lib.hid hb0
  have c2 : (w1.alloc (.cells #[.int .i64 x1, .int .i64 x2, .int .i64 x3] 106)).cell? ⟨C.mb, 2, none⟩ = some (.map (some C.bm)) := S0.out.box.cell 2
  obtain ⟨z, hrun, hz⟩ := S0.out.map.look (k : Int) HK.out
  obtain rfl := hz y HGk.out
  rw [HGk.out] at hrun
  clear hb0 c0 hz
  go_wp2_with fail
  go_ret2
  exact ⟨M, _, 0, HM.out, Only.of_below HB0.out _, .inl ⟨rfl, rfl, ownT, n, g, S0.out, by omega, fun i hi => .inl hi⟩⟩
theorem mv_ok3 {lim : Nat} {L M N B : List Nd} {k : Nat} {x1 x2 x3 l h : Int} (hR : RightL L) (hx : L[k]? = some (x1, x2, x3)) (e1 : mvP lim L x2 M = (N, l, 0)) (e2 : mvP lim L x3 N = (B, h, 0)) : mvP lim L (k : Int) M = mkP lim B x1 l h := by
  rw [mv_node hR hx]
  show thenP (mvP lim L x2 M) _ = _
  rw [e1, thenP_zero]
  show thenP (mvP lim L x3 N) _ = _
  rw [e2, thenP_zero]
theorem thenP_bad {N : List Nd} {l c : Int} {k : List Nd → Int → List Nd × Int × Int} (hc : c ≠ 0) : thenP (N, l, c) k = (N, 0, c) := if_neg hc
theorem mv_bad1 {lim : Nat} {L M N : List Nd} {k : Nat} {x1 x2 x3 l c : Int} (hR : RightL L) (hx : L[k]? = some (x1, x2, x3)) (e1 : mvP lim L x2 M = (N, l, c)) (hc : c ≠ 0) : mvP lim L (k : Int) M = (N, 0, c) := by
  rw [mv_node hR hx]
  show thenP (mvP lim L x2 M) _ = _
  rw [e1, thenP_bad hc]
theorem mv_bad2 {lim : Nat} {L M N B : List Nd} {k : Nat} {x1 x2 x3 l h c : Int} (hR : RightL L) (hx : L[k]? = some (x1, x2, x3)) (e1 : mvP lim L x2 M = (N, l, 0)) (e2 : mvP lim L x3 N = (B, h, c)) (hc : c ≠ 0) : mvP lim L (k : Int) M = (B, 0, c) := by
  rw [mv_node hR hx]
  show thenP (mvP lim L x2 M) _ = _
  rw [e1, thenP_zero]
  show thenP (mvP lim L x3 N) _ = _
  rw [e2, thenP_bad hc]
theorem mkP_zero {lim : Nat} {M M1 : List Nd} {v l h y c : Int} (hm : mkP lim M v l h = (M1, y, c)) (hc : c ≠ 0) : y = 0 := by
  unfold mkP at hm
  repeat' split at hm
  all_goals (simp only [Prod.mk.injEq] at hm; first | exact hm.2.1.symm | exact absurd hm.2.2.symm hc)
/-- Mk, in the midst of a move. -/
def RetMkS (C : Cx) (ownT : Nat → Prop) (M : List Nd) (v l h : Int) (w : World) (e : Ending) (w' : World) : Prop :=
  ∃ M1 y c ev, e = .returned (.tuple #[.int .i64 y, ev]) ∧ mkP C.lim M v l h = (M1, y, c) ∧ Only ownT w w' ∧
    ((c = 0 ∧ ev = .nilIface ∧ ∃ ownT1, Arena w' ownT1 C.q C.lim M1 ∧ ∀ i, ownT1 i → ownT i ∨ w.heap.size ≤ i) ∨
     (c ≠ 0 ∧ ∃ b, ev = .iface 165 (.pointer (some ⟨b, 0, none⟩)) ∧ Blk w' b 167 #[.string ⟨#[109, 107]⟩, .int .i64 v, .iface 53 (.int .i64 c)]))
theorem st_mk (hs : St C W ownT n g M) (v l h : Int) : Calls Tryd.prog 65 #[.pointer (some ⟨C.q, 0, none⟩), .int .i64 v, .int .i64 l, .int .i64 h] W (RetMkS C ownT M v l h W) := by
  obtain ⟨M1, y, c, hm⟩ : ∃ M1 y c, mkP C.lim M v l h = (M1, y, c) := ⟨_, _, _, rfl⟩
  by_cases hc : c = 0
  · subst hc
    exact (mk_ok hs.dst hs.few hm).mono fun _ _ ⟨own1, h1, h2, h3, h4⟩ => ⟨M1, y, 0, _, h1, hm, h3, .inl ⟨rfl, rfl, own1, h2, h4⟩⟩
  · exact (mk_bad hs.dst hs.few hm hc).mono fun _ _ ⟨own1, b, h1, h2, _, h3, _⟩ => ⟨M1, y, c, _, h1, hm, h3, .inr ⟨hc, b, rfl, h2⟩⟩
theorem only_oth {W0 W W1 : World} {own own1 : Nat → Prop} {bm : Nat} (h : Only (fun i => own i ∨ i = bm) W0 W) (k : Only (fun i => own1 i ∨ i = bm) W W1) (hw : ∀ i, own1 i → own i ∨ W0.heap.size ≤ i) : Only (fun i => own i ∨ i = bm) W0 W1 :=
  h.trans k fun i hi => hi.elim (fun h => (hw i h).elim (fun h => .inl (.inl h)) .inr) fun h => .inl (.inr h)
/-- The node that was read stays, while its children are moved. -/
structure Rd (C : Cx) (W0 : World) (ownT0 ownT : Nat → Prop) (n : Nat) (g : Int → Option Int) (M : List Nd) (nb : Nat) (x1 x2 x3 : Int) (W : World) : Prop where
  st : St C W ownT n g M
  nd : Blk W nb 106 #[.int .i64 x1, .int .i64 x2, .int .i64 x3]
  far : ¬ ownT nb
  on : Only (fun i => ownT0 i ∨ i = C.bm) W0 W
  own : ∀ i, ownT i → ownT0 i ∨ W0.heap.size ≤ i
theorem Rd.next {W0 W1 : World} {ownT0 ownT1 : Nat → Prop} {n1 nb : Nat} {g1 : Int → Option Int} {M1 : List Nd} {x1 x2 x3 : Int} (h : Rd C W0 ownT0 ownT n g M nb x1 x2 x3 W) (hs : St C W1 ownT1 n1 g1 M1) (ho : Only (fun i => ownT i ∨ i = C.bm) W W1) (hw : ∀ i, ownT1 i → ownT i ∨ W.heap.size ≤ i) : Rd C W0 ownT0 ownT1 n1 g1 M1 nb x1 x2 x3 W1 :=
  ⟨hs, ho.blk h.nd (fun e => e.elim h.far fun e => ne_map h.st.map h.nd e), fun e => (hw _ e).elim h.far fun hh => by have := h.nd.lt; omega,
    only_oth h.on ho h.own, fun i hi => (hw i hi).elim (h.own i) fun hh => .inr (Nat.le_trans h.on.size hh)⟩
theorem Rd.below {W0 W1 : World} {ownT0 : Nat → Prop} {nb : Nat} {x1 x2 x3 : Int} (h : Rd C W0 ownT0 ownT n g M nb x1 x2 x3 W) (hb : Below W.heap.size W W1) : Rd C W0 ownT0 ownT n g M nb x1 x2 x3 W1 :=
  h.next (h.st.below hb) (Only.of_below hb _) fun _ hi => .inl hi
theorem Rd.keep {W0 W1 : World} {ownT0 : Nat → Prop} {nb : Nat} {x1 x2 x3 : Int} (h : Rd C W0 ownT0 ownT n g M nb x1 x2 x3 W) (ho : Only ownT W W1) : W1.cell? ⟨nb, 0, none⟩ = some (.int .i64 x1) ∧ W1.cell? ⟨C.mb, 1, none⟩ = some (.pointer (some ⟨C.q, 0, none⟩)) :=
  ⟨(ho.blk h.nd h.far).cell 0, (ho.blk h.st.box h.st.dTb).cell 1⟩
theorem Rd.next5 {W0 W1 : World} {ownT0 ownT1 : Nat → Prop} {nb : Nat} {x1 x2 x3 v l r y : Int} {M1 : List Nd} (h : Rd C W0 ownT0 ownT n g M nb x1 x2 x3 W) (hm : mkP C.lim M v l r = (M1, y, 0)) (hA : Arena W1 ownT1 C.q C.lim M1) (ho : Only ownT W W1) (hw : ∀ i, ownT1 i → ownT i ∨ W.heap.size ≤ i) (hc : Came C.lim C.L C.M0 M1) : Rd C W0 ownT0 ownT1 n g M1 nb x1 x2 x3 W1 :=
  h.next (h.st.made hm hA ho hw hc) (ho.mono fun _ h => .inl (.inl h)) hw
/-- A ref that was told is an int. -/
theorem ref_I64 {lim : Nat} {L M M1 : List Nd} {k : Nat} {x : Nd} {y : Int} (hR : RightL L) (hx : L[k]? = some x) (hM : RightL M) (hm : mvP lim L (k : Int) M = (M1, y, 0)) (hf : M1.length + 1 ≤ 4000) : I64 y := by
  have h := (mv_end hR (k : Int) (by rw [hasP_iff]; have := get_len hx; omega) M M1 y hM hm).1
  rw [hasP_iff] at h
  unfold I64
  omega
theorem Rd.cells {W0 : World} {ownT0 : Nat → Prop} {nb : Nat} {x1 x2 x3 : Int} (h : Rd C W0 ownT0 ownT n g M nb x1 x2 x3 W) : (W.cell? ⟨nb, 0, none⟩ = some (.int .i64 x1) ∧ W.cell? ⟨nb, 1, none⟩ = some (.int .i64 x2) ∧ W.cell? ⟨nb, 2, none⟩ = some (.int .i64 x3)) ∧ W.cell? ⟨C.mb, 0, none⟩ = some (.pointer (some ⟨C.p, 0, none⟩)) ∧ W.cell? ⟨C.mb, 1, none⟩ = some (.pointer (some ⟨C.q, 0, none⟩)) ∧ W.cell? ⟨C.mb, 2, none⟩ = some (.map (some C.bm)) :=
  ⟨⟨h.nd.cell 0, h.nd.cell 1, h.nd.cell 2⟩, h.st.box.cell 0, h.st.box.cell 1, h.st.box.cell 2⟩
set_option maxRecDepth 100000 in
set_option maxHeartbeats 3200000 in
theorem move_new (h : St C W ownT n g M) {k : Nat} {x1 x2 x3 : Int} (hx : C.L[k]? = some (x1, x2, x3)) (hk : I64 (k : Int)) (hg : g (k : Int) = none) (hn : n + costP C.L (k : Int) < maxLen) (ih2 : Moves C x2) (ih3 : Moves C x3) :
    Calls Tryd.prog 70 #[.pointer (some ⟨C.mb, 0, none⟩), .int .i64 (k : Int)] W (RetMv C ownT n (costP C.L (k : Int)) (k : Int) M W) := by
  have hR := h.rightF
  have hc := costP_node hR hx
  rw [hc] at hn ⊢
  have HC := Lib.hid hc
  have HRf := Lib.hid hR
  have HX := Lib.hid hx
  have HG := Lib.hid (arena_get h.src hx)
  have HS := Lib.hid h
  have HK := Lib.hid hk
  have HGk := Lib.hid hg
  have HN := Lib.hid hn
  have I2 := Lib.hid ih2
  have I3 := Lib.hid ih3
  have c0 : W.cell? ⟨C.mb, 0, none⟩ = some (.pointer (some ⟨C.p, 0, none⟩)) := h.box.cell 0
  clear h hx hk hg hn hc hR ih2 ih3
  go_enter Tryd.func70, Tryd.ntmps70
  go_upto_region 4 with (first
    | (go_at_call 72; ((with_reducible refine HG.out.mono ?_); rintro e w1 ⟨rfl, hb1⟩); have H1 := Lib.hid hb1; clear hb1))
  have hb0 : Below W.heap.size W (w1.alloc (.cells #[.int .i64 x1, .int .i64 x2, .int .i64 x3] 106)) := H1.out.alloc H1.out.size _
  have S0 := HS.out.below hb0
  have R0 := Lib.hid (show Rd C W ownT ownT n g M w1.heap.size x1 x2 x3 (w1.alloc (.cells #[.int .i64 x1, .int .i64 x2, .int .i64 x3] 106)) from ⟨S0, Blk.new _ _ _, fun e => by have := HS.out.dst.old _ e; have := H1.out.size; omega, Only.of_below hb0 _, fun i hi => .inl hi⟩)
  obtain ⟨z, hrun, -⟩ := S0.map.look (k : Int) HK.out
  rw [HGk.out] at hrun
  obtain ⟨W2, hW2⟩ : ∃ W2, w1.alloc (.cells #[.int .i64 x1, .int .i64 x2, .int .i64 x3] 106) = W2 := ⟨_, rfl⟩
  obtain ⟨nb, hnb⟩ : ∃ nb, w1.heap.size = nb := ⟨_, rfl⟩
  rw [hW2, hnb] at R0
  rw [hW2] at hrun ⊢
  rw [hnb]
  clear hb0 c0 hW2 hnb S0
  obtain ⟨⟨q0, q1, q2⟩, q3, q4, q5⟩ := R0.out.cells
  go_upto_region 13 with (first
    | (go_at_call 70; ((with_reducible refine (I3.out _ _ _ _ _ R3.out.st (by have := HN.out; have := N3.out; omega)).mono ?_); rintro e w4 ⟨M4, y4, c4, m4, o4, (⟨rfl, rfl, own4, n4, g4, s4, l4, v4⟩ | ⟨hc4, b4, z4, rfl, k4⟩)⟩; have R4 := Lib.hid (R3.out.next s4 o4 v4); have E4 := Lib.hid m4; have N4 := Lib.hid (show n4 ≤ n + costP C.L x2 + costP C.L x3 by have := N3.out; omega); clear s4 o4 v4 m4 l4; obtain ⟨⟨u0, u1, u2⟩, u3, u4, u5⟩ := R4.out.cells))
    | (go_at_call 70; ((with_reducible refine (I2.out _ _ _ _ _ R0.out.st (by have := HN.out; omega)).mono ?_); rintro e w3 ⟨M3, y3, c3, m3, o3, (⟨rfl, rfl, own3, n3, g3, s3, l3, v3⟩ | ⟨hc3, b3, z3, rfl, k3⟩)⟩; have R3 := Lib.hid (R0.out.next s3 o3 v3); have E3 := Lib.hid m3; have N3 := Lib.hid l3; clear s3 o3 v3 m3 l3; obtain ⟨⟨r0, r1, r2⟩, r3, r4, r5⟩ := R3.out.cells)))
  · have HC4 := Lib.hid (mv_ok3 HRf.out HX.out E3.out E4.out)
    have RD := Lib.hid (R4.out.below (Below.refl _ _).drew)
    have K0 := Lib.hid (RD.out.keep (Only.refl _ _))
    go_region_held3 (fun w => w.cell? ⟨nb, 0, none⟩ = some (.int .i64 x1) ∧ w.cell? ⟨C.mb, 1, none⟩ = some (.pointer (some ⟨C.q, 0, none⟩)))
      (first | (with_reducible exact K0.out) | (with_reducible exact K5.out))
      (first
        | (go_at_call 65; ((with_reducible refine (st_mk RD.out.st x1 y3 y4).mono ?_); rintro e w5 ⟨M5, y5, c5, ev5, rfl, m5, o5, h5⟩); have K5 := Lib.hid (RD.out.keep o5)))
    rw [m5] at HC4
    rcases h5 with ⟨rfl, rfl, own5, a5, v5⟩ | ⟨hc5, b5, rfl, k5⟩
    · have hx5 : mvP C.lim C.L (k : Int) M = (M5, y5, 0) := HC4.out
      have R5 := RD.out.next5 m5 a5 o5 v5 (came_step HRf.out HS.out.rightT HS.out.came hx5)
      have hst := mv_stay HRf.out _ M M5 y5 [] HS.out.rightT hx5 (by simpa using R5.st.rightT)
      simp only [List.append_nil] at hst
      obtain ⟨w6, hrun6, hM6, hg6⟩ := R5.st.map.put (k : Int) y5 HK.out (ref_I64 HRf.out HX.out HS.out.rightT hx5 R5.st.few) (by have := HN.out; have := N4.out; omega)
      have t2 : w5.cell? ⟨C.mb, 2, none⟩ = some (.map (some C.bm)) := R5.st.box.cell 2
      have S6 := Lib.hid (R5.st.put hM6 hg6 hst)
      have O6 := Lib.hid (R5.on.trans (Only.of_grown hg6 (own := fun i => ownT i ∨ i = C.bm) fun r e => by injection e with e; exact .inr e.symm) fun _ h => .inl h)
      have V6 := Lib.hid R5.own
      have HX5 := Lib.hid hx5
      clear hM6 hg6 hst R5 hx5
      go_wp2_with fail
      go_ret2
      exact ⟨M5, y5, 0, HX5.out, O6.out, .inl ⟨rfl, rfl, own5, n4 + 1, _, S6.out, by have := N4.out; omega, V6.out⟩⟩
    · have hy := mkP_zero m5 hc5
      subst hy
      go_wp2_with fail
      go_ret2
      exact ⟨M5, 0, c5, HC4.out, only_oth RD.out.on (o5.mono fun _ h => .inl (.inl h)) RD.out.own, .inr ⟨hc5, b5, x1, rfl, k5⟩⟩
  · go_wp2_with fail
    go_ret2
    exact ⟨M4, 0, c4, mv_bad2 HRf.out HX.out E3.out m4 hc4, only_oth R3.out.on o4 R3.out.own, .inr ⟨hc4, b4, z4, rfl, k4⟩⟩
  · go_wp2_with fail
    go_ret2
    exact ⟨M3, 0, c3, mv_bad1 HRf.out HX.out m3 hc3, only_oth R0.out.on o3 R0.out.own, .inr ⟨hc3, b3, z3, rfl, k3⟩⟩
end
theorem move_all {C : Cx} (hR : RightL C.L) : ∀ r, Moves C r := by
  refine down hR (fun r hr W ownT n g M h _ => ?_) fun k x hx _ _ ih2 ih3 W ownT n g M h hn => ?_
  · have e : costP C.L r = 0 := fold_out hr
    rw [e]
    exact move_end h hr
  · obtain ⟨x1, x2, x3⟩ := x
    have hk : I64 (k : Int) := by have := h.src.few; have := get_len hx; unfold I64; omega
    cases hg : g (k : Int) with
    | some y => exact move_known h hx hk hg
    | none => exact move_new h hx hk hg hn ih2 ih3
end Go.Proofs.YtlddelnbjihhgaaDoor
