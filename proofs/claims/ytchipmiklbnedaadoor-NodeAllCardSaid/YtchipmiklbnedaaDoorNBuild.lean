/- The contract of build: an arena of a script, and all refs that came. -/
import Derived.Test.YtchipmiklbnedaaDoorNAliveWalk
import Derived.Test.YtchipmiklbnedaaDoorNBuildMath
import Derived.OwnWalk
namespace Go.Proofs.YtchipmiklbnedaaDoor
open Go.RowKit
attribute [local go_sem ↓] Go.wp_at_zero Go.wp_at_succ

/-- A row of a script's pieces. -/
def Ops (w : World) (A : Option Addr) (m : Nat) (f : Nat → Nd) : Prop :=
  0 < m → ∃ b off, A = some ⟨b, off, none⟩ ∧ b < w.heap.size ∧ ∀ j, j < m → w.cell? ⟨b, off + j * 3, none⟩ = some (.int .i64 (f j).1) ∧ w.cell? ⟨b, off + j * 3 + 1, none⟩ = some (.int .i64 (f j).2.1) ∧ w.cell? ⟨b, off + j * 3 + 2, none⟩ = some (.int .i64 (f j).2.2)
theorem Ops.below {w w' : World} {A : Option Addr} {m : Nat} {f : Nat → Nd} (h : Ops w A m f) (hb : Below w.heap.size w w') : Ops w' A m f := fun hm => by
  obtain ⟨b, off, rfl, hlt, hc⟩ := h hm
  refine ⟨b, off, rfl, Nat.lt_of_lt_of_le hlt hb.size, fun j hj => ?_⟩
  obtain ⟨h0, h1, h2⟩ := hc j hj
  exact ⟨(hb.cell (p := ⟨b, _, none⟩) hlt).trans h0, (hb.cell (p := ⟨b, _, none⟩) hlt).trans h1, (hb.cell (p := ⟨b, _, none⟩) hlt).trans h2⟩
theorem Ops.named {W : World} {A : Option Addr} {m i : Nat} {f : Nat → Nd} (h : Ops W A m f) (hi : i < m) : ∃ (b off : Nat) (x1 x2 x3 : Int), A = some ⟨b, off, none⟩ ∧ b < W.heap.size ∧ f i = (x1, x2, x3) ∧ W.cell? ⟨b, off + i * 3, none⟩ = some (.int .i64 x1) ∧ W.cell? ⟨b, off + i * 3 + 1, none⟩ = some (.int .i64 x2) ∧ W.cell? ⟨b, off + i * 3 + 2, none⟩ = some (.int .i64 x3) := by
  obtain ⟨b, off, hA, hlt, hc⟩ := h (by omega)
  obtain ⟨h0, h1, h2⟩ := hc i hi
  exact ⟨b, off, _, _, _, hA, hlt, rfl, h0, h1, h2⟩

theorem wpList_append_at {P : Program} {w : World} {ops : Array Oper} {rest : List Oper} {o : Oper} {a : Act} {Q : Exit → Act → World → Prop} (hgd : o.guard = none) (s x : Operand) (t : TypeId)
    (ho : o.op = .call { callee := .builtin .append, args := #[s, x], argTypes := #[t, t] })
    (base : Nat) (e : TypeId) (i : TypeInfo) (z : Value) (size bytes : Nat) (ht : P.underlying t = some (.slice e)) (hi : P.info? e = some i) (hz : i.zero = some z)
    (hsize : i.size = size) (hby : i.bytes = bytes) (hzs : z.cells.size = size) (hsz : 0 < size)
    (v : Value) (n : Nat) (xs : List Value) (hs : a.eval s = v) (hown : w.ownsRow base e size v n xs)
    (ad : Addr) (m c : Nat) (news : List Value) (hx : a.eval x = .slice (some ad) m c) (hl : news.length = m * size) (hnews : ∀ j u, news[j]? = some u → w.cell? (ad.add j) = some u) (h1 : ∀ u ∈ news, u.oneCell' = true)
    (h63 : n + m ≤ maxLen) (hbytes : (n + m) * bytes ≤ 140737488355328) (hbase : base ≤ w.heap.size)
    (h : ∀ v' w', w'.ownsRow base e size v' (n + m) (xs ++ news) → w.grownBy w' v.ownBlock → (v'.ownBlock = v.ownBlock ∨ v'.ownBlock = some w.heap.size) → wpList P ops Q rest (a.put o.dst v') w') : wpList P ops Q (o :: rest) a w :=
  wpList_plain hgd fun _ hK => wp_append_at s x t ho base e i z size bytes ht hi hz hsize hby hzs hsz v n xs hs hown ad m c news hx hl hnews h1 h63 hbytes hbase fun v' w' h2 h3 h4 => hK _ _ (h v' w' h2 h3 h4)

section
variable {W W1 : World} {own own1 : Nat → Prop} {p lim : Nat} {L : List Nd}
/-- What does not touch an arena's blocks leaves it. -/
theorem ArenaR.only {P cn cp : Nat} {T : Nat → Nat} {An Ap : Option Addr} (h : ArenaR W own p lim L P T An Ap cn cp) (ho : Only own1 W W1) (hd : ∀ i, own i → ¬ own1 i) : ArenaR W1 own p lim L P T An Ap cn cp :=
  ⟨ho.blk h.blk (hd _ h.mine), h.mine, h.mineN, h.mineP, fun i hi => Nat.lt_of_lt_of_le (h.old i hi) ho.size, ho.row h.rowN (fun g e => hd _ (h.mineN g e)), ho.row h.rowP (fun g e => hd _ (h.mineP g e)), h.limit, h.few, h.room⟩
theorem Arena.only (h : Arena W own p lim L) (ho : Only own1 W W1) (hd : ∀ i, own i → ¬ own1 i) : Arena W1 own p lim L := by
  obtain ⟨P, T, An, Ap, cn, cp, hR, h⟩ := h
  exact ⟨P, T, An, Ap, cn, cp, hR.only ho hd, h⟩
theorem Arena.old (h : Arena W own p lim L) : ∀ i, own i → i < W.heap.size := by
  obtain ⟨P, T, An, Ap, cn, cp, hR, -⟩ := h
  exact hR.old
theorem Arena.right (h : Arena W own p lim L) : RightL L := by
  obtain ⟨P, T, An, Ap, cn, cp, hR, -, -, hu⟩ := h
  exact hu
theorem Arena.few (h : Arena W own p lim L) : L.length ≤ 4000 := by
  obtain ⟨P, T, An, Ap, cn, cp, hR, -⟩ := h
  exact hR.few
/-- Mk, with what it touches. -/
def RetOk (own : Nat → Prop) (p lim : Nat) (L' : List Nd) (r : Int) (w : World) (e : Ending) (w' : World) : Prop := ∃ own' : Nat → Prop, e = .returned (.tuple #[.int .i64 r, .nilIface]) ∧ Arena w' own' p lim L' ∧ Only own w w' ∧ ∀ i, own' i → own i ∨ w.heap.size ≤ i
def RetBad (own : Nat → Prop) (p lim : Nat) (L' : List Nd) (v r c : Int) (w : World) (e : Ending) (w' : World) : Prop := ∃ (own' : Nat → Prop) (b : Nat), e = .returned (.tuple #[.int .i64 r, .iface 69 (.pointer (some ⟨b, 0, none⟩))]) ∧ Blk w' b 74 #[.string ⟨#[109, 107]⟩, .int .i64 v, .iface 36 (.int .i64 c)] ∧ Arena w' own' p lim L' ∧ Only own w w' ∧ ∀ i, own' i → own i ∨ w.heap.size ≤ i
theorem mk_ok {L' : List Nd} {v lo hi r : Int} (hA : Arena W own p lim L) (hfew : L.length + 1 ≤ 4000) (hm : mkP lim L v lo hi = (L', r, 0)) :
    Calls Tryd.prog 12 #[.pointer (some ⟨p, 0, none⟩), .int .i64 v, .int .i64 lo, .int .i64 hi] W (RetOk own p lim L' r W) := by
  refine (mk_any hA hfew).mono ?_
  rintro e w' ⟨ev, own', rfl, he, hA', ho, hw⟩
  rw [hm] at he hA' ⊢
  rcases he with ⟨-, rfl⟩ | ⟨h, -⟩
  · exact ⟨own', rfl, hA', ho, hw⟩
  · exact absurd rfl h
theorem mk_bad {L' : List Nd} {v lo hi r c : Int} (hA : Arena W own p lim L) (hfew : L.length + 1 ≤ 4000) (hm : mkP lim L v lo hi = (L', r, c)) (hc : c ≠ 0) :
    Calls Tryd.prog 12 #[.pointer (some ⟨p, 0, none⟩), .int .i64 v, .int .i64 lo, .int .i64 hi] W (RetBad own p lim L' v r c W) := by
  refine (mk_any hA hfew).mono ?_
  rintro e w' ⟨ev, own', rfl, he, hA', ho, hw⟩
  rw [hm] at he hA' ⊢
  rcases he with ⟨h, -⟩ | ⟨-, b, hb, rfl, hk⟩
  · exact absurd h hc
  · exact ⟨own', b, rfl, hk, hA', ho, hw⟩
end

/-- While it is built: the arena, and the row of the refs, apart from each other, above what there was. -/
def Bld (w : World) (p lim : Nat) (L : List Nd) (R : List Int) (v : Value) (W : World) : Prop :=
  ∃ own : Nat → Prop, Arena W own p lim L ∧ (∀ i, own i → w.heap.size ≤ i) ∧ Below w.heap.size w W ∧ W.ownsRow w.heap.size 3 1 v R.length (R.map (Value.int .i64)) ∧ ∀ g, v.ownBlock = some g → ¬ own g
section
variable {w W : World} {p lim : Nat} {L L' : List Nd} {R : List Int} {v : Value}
theorem bld_start {own : Nat → Prop} (hA : Arena W own p lim L) (hw : ∀ i, own i → w.heap.size ≤ i) (hb : Below w.heap.size w W) : Bld w p lim L [] (.slice none 0 0) W :=
  ⟨own, hA, hw, hb, World.ownsRow_nil _ _ _ _, fun g h => by simp [Value.ownBlock] at h⟩
theorem bld_below {W1 : World} (h : Bld w p lim L R v W) (hb : Below W.heap.size W W1) : Bld w p lim L R v W1 := by
  obtain ⟨own, hA, hw, hbw, hr, hd⟩ := h
  exact ⟨own, hA.below hb, hw, hbw.trans (hb.mono hbw.size), own_below hr hb, hd⟩
theorem bld_next {own own' : Nat → Prop} {W1 : World} (hw : ∀ i, own i → w.heap.size ≤ i) (hb : Below w.heap.size w W) (hr : W.ownsRow w.heap.size 3 1 v R.length (R.map (Value.int .i64))) (hd : ∀ g, v.ownBlock = some g → ¬ own g)
    (hA' : Arena W1 own' p lim L') (ho : Only own W W1) (hw' : ∀ i, own' i → own i ∨ W.heap.size ≤ i) : Bld w p lim L' R v W1 :=
  ⟨own', hA', fun i hi => (hw' i hi).elim (hw i) (fun h => Nat.le_trans hb.size h), hb.trans (ho.below hb.size hw), ho.row hr hd, fun g hg hi => (hw' g hi).elim (hd g hg) (fun h => by have := (hr.lt g hg).2; omega)⟩
theorem bld_ok {a lo hi r : Int} (h : Bld w p lim L R v W) (hfew : L.length + 1 ≤ 4000) (hm : mkP lim L a lo hi = (L', r, 0)) :
    Calls Tryd.prog 12 #[.pointer (some ⟨p, 0, none⟩), .int .i64 a, .int .i64 lo, .int .i64 hi] W fun e w' => e = .returned (.tuple #[.int .i64 r, .nilIface]) ∧ Bld w p lim L' R v w' := by
  obtain ⟨own, hA, hw, hb, hr, hd⟩ := h
  exact (mk_ok hA hfew hm).mono fun _ _ ⟨own', h1, h2, h3, h4⟩ => ⟨h1, bld_next hw hb hr hd h2 h3 h4⟩
theorem bld_bad {a lo hi r c : Int} (h : Bld w p lim L R v W) (hfew : L.length + 1 ≤ 4000) (hm : mkP lim L a lo hi = (L', r, c)) (hc : c ≠ 0) :
    Calls Tryd.prog 12 #[.pointer (some ⟨p, 0, none⟩), .int .i64 a, .int .i64 lo, .int .i64 hi] W fun e w' => ∃ b, e = .returned (.tuple #[.int .i64 r, .iface 69 (.pointer (some ⟨b, 0, none⟩))]) ∧ Bld w p lim L' R v w' := by
  obtain ⟨own, hA, hw, hb, hr, hd⟩ := h
  exact (mk_bad hA hfew hm hc).mono fun _ _ ⟨own', b, h1, _, h2, h3, h4⟩ => ⟨b, h1, bld_next hw hb hr hd h2 h3 h4⟩
theorem bld_append {W1 : World} {x : Int} {v' : Value} (h : Bld w p lim L R v W) (ho : W1.ownsRow w.heap.size 3 1 v' (R.length + 1) (R.map (Value.int .i64) ++ [.int .i64 x])) (hg : W.grownBy W1 v.ownBlock) (hv : v'.ownBlock = v.ownBlock ∨ v'.ownBlock = some W.heap.size) :
    Bld w p lim L (R ++ [x]) v' W1 := by
  obtain ⟨own, hA, hw, hb, hr, hd⟩ := h
  refine ⟨own, hA.only (own1 := fun i => v.ownBlock = some i) (Only.of_grown hg fun r e => e) (fun i hi h => hd i h hi), hw, hb.grown hg hb.size (fun k hk => (hr.lt k hk).1), ?_, fun g hg' hi => ?_⟩
  · rw [List.length_append, List.map_append]
    exact ho
  · rcases hv with e | e
    · exact hd g (e ▸ hg') hi
    · have := hA.old g hi
      rw [e] at hg'
      injection hg' with hg'
      omega
theorem bld_row (h : Bld w p lim L R v W) : W.ownsRow w.heap.size 3 1 v R.length (R.map (Value.int .i64)) ∧ Below w.heap.size w W := by
  obtain ⟨own, -, -, hb, hr, -⟩ := h
  exact ⟨hr, hb⟩
theorem bld_len (h : Bld w p lim L R v W) : L.length ≤ 4000 := by
  obtain ⟨own, hA, -⟩ := h
  exact hA.few
end
theorem one_at (w : World) (a : Value) (t : TypeId) : ∀ (j : Nat) (u : Value), [a][j]? = some u → (w.alloc (.cells #[a] t)).cell? ((⟨w.heap.size, 0, none⟩ : Addr).add j) = some u := fun j u h => by
  rw [Addr.add_lit, Nat.zero_add]
  exact ((Blk.new w t #[a]).cell j).trans (by simpa using h)
theorem one_one (x : Int) : ∀ u ∈ [Value.int .i64 x], u.oneCell' = true := by
  intro u hu
  simp at hu
  rcases hu with rfl
  rfl
theorem few_bounds {k : Nat} (h : k ≤ 4000) : k + 1 ≤ maxLen ∧ (k + 1) * 8 ≤ 140737488355328 := by unfold maxLen; omega
def RetFar (w : World) (e : Ending) (w' : World) : Prop := e = .returned (.tuple #[.pointer none, .slice none 0 0]) ∧ Below w.heap.size w w'
def RetBuild (lim : Nat) (L : List Nd) (R : List Int) (w : World) (e : Ending) (w' : World) : Prop := ∃ p v, e = .returned (.tuple #[.pointer (some ⟨p, 0, none⟩), v]) ∧ Bld w p lim L R v w'
theorem build_new (n : Int) (h : -9223372036854775808 ≤ n ∧ n ≤ 9223372036854775807) (w : World) : Calls Tryd.prog 9 #[.int .i64 n] w fun e w' => ∃ p, e = .returned (.pointer (some ⟨p, 0, none⟩)) ∧ Bld w p n.toNat [] [] (.slice none 0 0) w' :=
  (new_any n h w).mono fun _ _ ⟨h1, h2, h3⟩ => ⟨_, h1, bld_start h2 (fun _ hi => Nat.le_of_eq hi.symm) h3⟩
set_option maxRecDepth 100000 in
theorem build_far (n : Int) (h : -9223372036854775808 ≤ n ∧ n ≤ 9223372036854775807) {A : Option Addr} {m c : Nat} (hm : 60 < m) (w : World) :
    Calls Tryd.prog 27 #[.int .i64 n, .slice A m c] w (RetFar w) := by
  have HN := Lib.hid (build_new n h w)
  have ne := ne_nil
  clear h
  go_enter Tryd.func27, Tryd.ntmps27
  go_wp2_with (first
    | (go_at_call 9; ((with_reducible refine HN.out.mono ?_); rintro e w1 ⟨p, rfl, h1⟩); have H1 := Lib.hid h1; clear h1))
  go_ret2
  obtain ⟨own, -, -, hb, -⟩ := H1.out
  exact ⟨rfl, hb⟩
set_option maxRecDepth 100000 in
set_option maxHeartbeats 1600000 in
theorem build_any (n : Int) (h : -9223372036854775808 ≤ n ∧ n ≤ 9223372036854775807) {A : Option Addr} {m c : Nat} {f : Nat → Nd} (hm : m ≤ 60) (w : World) (hO : Ops w A m f) :
    Calls Tryd.prog 27 #[.int .i64 n, .slice A m c] w (RetBuild n.toNat (scr n.toNat [] f m) (refsP n.toNat [] f m) w) := by
  obtain ⟨lim, hlim⟩ : ∃ lim, n.toNat = lim := ⟨_, rfl⟩
  have hN := build_new n h w
  rw [hlim] at hN ⊢
  have HN := Lib.hid hN
  have HO := Lib.hid hO
  have ne := ne_nil
  have hinfo : (Tryd.prog.info? 3).map (fun i => (i.zero, i.size, i.bytes)) = some (some (.int .i64 0), 1, 8) := by kernel_rfl
  obtain ⟨i0, hi, hz0, hz1, hz2⟩ := info_parts hinfo
  have HI0 := Lib.hid (And.intro hi (And.intro hz0 (And.intro hz1 hz2)))
  clear h hlim hN hO hinfo hi hz0 hz1 hz2
  go_enter Tryd.func27, Tryd.ntmps27
  go_wp2_with (first
    | (go_at_call 9; ((with_reducible refine HN.out.mono ?_); rintro e w1 ⟨p, rfl, h1⟩); have H1 := Lib.hid h1; clear h1))
  go_loopg [7, 23] m (fun gk t7 t23 wr => ∃ i : Nat, i + gk = m ∧ t23 = .int .i64 (i : Int) ∧ Bld w p lim (scr lim [] f i) (refsP lim [] f i) t7 wr)
  case atStart => exact ⟨0, by omega, rfl, H1.out⟩
  case round =>
    rename Nat => g0
    obtain ⟨i, hi, rfl, hB⟩ := hrel
    have HB := Lib.hid hB
    have HI := Lib.hid hi
    clear hB hi
    by_cases him : i < m
    · obtain ⟨b, off, x1, x2, x3, hA, hlt, hf, k0, k1, k2⟩ := (HO.out.below (bld_row HB.out).2).named him
      obtain ⟨L', r, cc, hm⟩ : ∃ L' r cc, mkP lim (scr lim [] f i) x1 x2 x3 = (L', r, cc) := ⟨_, _, _, rfl⟩
      have hL' : scr lim [] f (i + 1) = L' := by show (mkP _ _ _ _ _).1 = _; rw [hf, hm]
      have hfew : (scr lim [] f i).length + 1 ≤ 4000 := by have := scr_len lim [] f i; simp at this; omega
      have hrl := refs_len lim [] f i
      have HL' := Lib.hid hL'
      have HM := Lib.hid hm
      have HBx := Lib.hid (bld_below HB.out ((Below.refl wr.heap.size wr).alloc (Nat.le_refl _) (.cells #[.int .i64 x1, .int .i64 x2, .int .i64 x3] 31)))
      have HFew := Lib.hid hfew
      have HRl := Lib.hid (few_bounds (show (refsP lim [] f i).length ≤ 4000 by omega))
      subst hA
      by_cases hc : cc = 0
      · subst hc
        have HR : Hid (refsP lim [] f (i + 1) = refsP lim [] f i ++ [r]) := Lib.hid (by show _ ++ (if _ then _ else _) = _; rw [hf, hm]; rfl)
        obtain ⟨hi, hz0, hz1, hz2⟩ := HI0.out
        clear hf hm hL' hfew hrl
        go_wp2_with (first
          | (go_at_call 12; ((with_reducible refine (bld_ok HBx.out HFew.out HM.out).mono ?_); rintro e w2 ⟨rfl, h2⟩); have H2 := Lib.hid h2; have hown := (bld_row h2).1; have HBw := Lib.hid (bld_row h2).2; clear h2)
          | (at_builtin; refine wpList_append_at rfl _ _ 51 rfl w.heap.size 3 i0 (.int .i64 0) 1 8 Tryd.underlying51 hi hz0 hz1 hz2 rfl (by decide) _ _ _ rfl (hown.alloc _) ⟨w2.heap.size, 0, none⟩ 1 1 [.int .i64 r] rfl rfl ?_ ?_ ?_ ?_ ?_ ?_; exact one_at _ _ _; exact one_one _; exact HRl.out.1; exact HRl.out.2; exact Nat.le_trans HBw.out.size ((Below.refl w2.heap.size w2).alloc (Nat.le_refl _) _).size; intro v' w3 ho hg hv; have H3 := Lib.hid (bld_append (bld_below H2.out ((Below.refl _ _).alloc (Nat.le_refl _) _)) ho hg hv); clear ho hg hv hown))
        have hi := HI.out
        go_roundg (g0 - 1)
        case measure => omega
        case rel => exact ⟨i + 1, by omega, by simp, by rw [HL'.out, HR.out]; exact H3.out⟩
      · have HR : Hid (refsP lim [] f (i + 1) = refsP lim [] f i) := Lib.hid (by show _ ++ (if _ then _ else _) = _; rw [hf, hm]; show _ ++ (if cc = 0 then _ else _) = _; rw [if_neg hc, List.append_nil])
        have HC := Lib.hid hc
        clear hf hm hL' hfew hrl hc
        go_wp2_with (first
          | (go_at_call 12; ((with_reducible refine (bld_bad HBx.out HFew.out HM.out HC.out).mono ?_); rintro e w2 ⟨b2, rfl, h2⟩); have H2 := Lib.hid h2; clear h2))
        have hi := HI.out
        go_roundg (g0 - 1)
        case measure => omega
        case rel => exact ⟨i + 1, by omega, by simp, by rw [HL'.out, HR.out]; exact H2.out⟩
    · have hie : i = m := by have := HI.out; omega
      subst hie
      go_wp2_with fail
      go_ret2
      exact ⟨p, _, rfl, HB.out⟩
end Go.Proofs.YtchipmiklbnedaaDoor
