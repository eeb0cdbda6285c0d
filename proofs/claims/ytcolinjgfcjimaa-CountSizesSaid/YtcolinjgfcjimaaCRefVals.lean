/- The contract of the document's Values. -/
import Derived.Test.YtcolinjgfcjimaaCRefTell
import Derived.Test.YtcolinjgfcjimaaCRefBelow
import Derived.Deep.LoopGhost
import Derived.Deep.RegionLaw
import Derived.BigQuiet
namespace Go.Proofs.Ytcolinjgfcjimaa
open Go.RowKit
attribute [local go_sem ↓] Go.wp_at_zero Go.wp_at_succ

theorem step_append_rows {P : Program} {w : World} {ops : Array Oper} {o : Oper} {a : Act} {K : Act → World → Prop} {Q : Exit → Act → World → Prop} {E : Prop} (hgd : o.guard = none) (s x : Operand) (t : TypeId)
    (ho : o.op = .call { callee := .builtin .append, args := #[s, x], argTypes := #[t, t] })
    (base : Nat) (e : TypeId) (i : TypeInfo) (z : Value) (size bytes : Nat) (ht : P.underlying t = some (.slice e)) (hi : P.info? e = some i) (hz : i.zero = some z)
    (hsize : i.size = size) (hby : i.bytes = bytes) (hzs : z.cells.size = size) (hsz : 0 < size)
    (v : Value) (n : Nat) (xs : List Value) (hs : a.eval s = v) (hown : w.ownsRow base e size v n xs)
    (y : Value) (m : Nat) (news : List Value) (hx : a.eval x = y) (hr : RowAt w y m news) (hl : news.length = m * size) (h1 : ∀ u ∈ news, u.oneCell' = true)
    (h63 : n + m ≤ maxLen) (hbytes : (n + m) * bytes ≤ 140737488355328) (hbase : base ≤ w.heap.size)
    (h : ∀ v' w', w'.ownsRow base e size v' (n + m) (xs ++ news) → w.grownBy w' v.ownBlock → (v'.ownBlock = v.ownBlock ∨ v'.ownBlock = some w.heap.size) → K (a.put o.dst v') w') :
    if Region.wanted o (yielded ops a.tmps) = true then Oper.wp P o a w K Q else E := by
  have hw : Region.wanted o (yielded ops a.tmps) = true := by simp [Region.wanted, hgd]
  rw [if_pos hw]
  obtain ⟨v', w', hrun, h2, h3, h4⟩ := run_append_rows (P := P) w base t o.type e i z size bytes ht hi hz hsize hby hzs hsz v n xs hown y m news hr hl h1 h63 hbytes hbase
  unfold Oper.wp execOp
  simp only [ho, resolve, invoke, builtin, Sem.run_bind, Sem.run_pure, Result.andThen_ok, List.map_toArray, List.map_cons, List.map_nil, hs, hx, hrun]
  exact h v' w' h2 h3 h4
theorem ints_one (V : List Int) : ∀ u ∈ V.map (Value.int .i64), u.oneCell' = true := fun u hu => by
  obtain ⟨x, -, rfl⟩ := List.mem_map.1 hu
  rfl
/-- A row that rises, and what it becomes where a number is put in. -/
def insL (V : List Int) (a : Nat) (z : Int) : List Int := V.take a ++ z :: V.drop a
theorem ins_len (V : List Int) (a : Nat) (z : Int) : (insL V a z).length = V.length + 1 := by
  unfold insL
  simp only [List.length_append, List.length_cons, List.length_take, List.length_drop]
  omega
theorem ins_mem (V : List Int) (a : Nat) (z x : Int) : x ∈ insL V a z ↔ x = z ∨ x ∈ V := by
  unfold insL
  rw [List.mem_append, List.mem_cons]
  have h : x ∈ V ↔ x ∈ V.take a ∨ x ∈ V.drop a := by
    rw [← List.mem_append, List.take_append_drop]
  rw [h]
  constructor
  · rintro (h | h | h)
    · exact .inr (.inl h)
    · exact .inl h
    · exact .inr (.inr h)
  · rintro (h | h | h)
    · exact .inr (.inl h)
    · exact .inl h
    · exact .inr (.inr h)
theorem ins_rise {V : List Int} {a : Nat} {z : Int} (h : V.Pairwise fun x y => x < y) (h1 : ∀ (j : Nat) (x : Int), j < a → V[j]? = some x → x < z) (h2 : ∀ y, V[a]? = some y → z < y) : (insL V a z).Pairwise fun x y => x < y := by
  have ht : ∀ x ∈ V.take a, x < z := fun x hx => by
    obtain ⟨j, hj⟩ := List.mem_iff_getElem?.1 hx
    rw [List.getElem?_take] at hj
    split at hj
    · exact h1 j x (by assumption) hj
    · cases hj
  have hp := h
  rw [← List.take_append_drop a V, List.pairwise_append] at hp
  obtain ⟨p1, p2, p3⟩ := hp
  have hd : ∀ y ∈ V.drop a, z < y := by
    intro y hy
    cases hV : V.drop a with
    | nil => rw [hV] at hy; cases hy
    | cons q Q =>
      have hq : V[a]? = some q := by
        have := List.getElem?_drop (xs := V) (i := a) (j := 0)
        rw [hV] at this
        simpa using this.symm
      rw [hV] at hy p2
      rcases List.mem_cons.1 hy with rfl | hy
      · exact h2 _ hq
      · have := (List.pairwise_cons.1 p2).1 y hy
        have := h2 _ hq
        omega
  unfold insL
  rw [List.pairwise_append, List.pairwise_cons]
  refine ⟨p1, ⟨hd, p2⟩, fun x hx y hy => ?_⟩
  rcases List.mem_cons.1 hy with rfl | hy
  · exact ht x hx
  · exact p3 x hx y hy
def RetRV (L : List Nd) (f : Int) (w : World) (e : Ending) (w' : World) : Prop := ∃ (V : List Int) (v : Value), e = .returned v ∧ w'.ownsRow w.heap.size 3 1 v V.length (V.map (Value.int .i64)) ∧ (V.Pairwise fun x y => x < y) ∧ (∀ x, x ∈ V ↔ ∃ n, n < 4096 ∧ valueP (endP L n f) = x) ∧ V.length ≤ 4096 ∧ Below w.heap.size w w'
/-- The row at hand. -/
structure VS (w5 : World) (V : List Int) (t5 : Value) (W : World) : Prop where
  row : W.ownsRow w5.heap.size 3 1 t5 V.length (V.map (Value.int .i64))
  low : Below w5.heap.size w5 W
section
variable {w5 W W1 w7 w8 w9 : World} {V : List Int} {t5 v7 v8 v9 : Value} {z : Int} {n m : Nat} {xs ys : List Value}
theorem VS.below (h : VS w5 V t5 W) (hb : Below W.heap.size W W1) : VS w5 V t5 W1 := ⟨own_below h.row hb, h.low.trans (hb.mono h.low.size)⟩
theorem VS.lit (h : VS w5 V t5 W) (z : Int) : (W.alloc (.cells #[.int .i64 z] 3)).drew.ownsRow w5.heap.size 3 1 (.slice (some ⟨W.heap.size, 0, none⟩) 1 1) 1 [.int .i64 z] :=
  own_below (World.ownsRow_lit W #[.int .i64 z] 1 h.low.size (by unfold maxLen; omega) rfl) (Below.refl _ _).drew
theorem VS.lit0 (h : VS w5 V t5 W) : (W.alloc (.cells #[] 3)).ownsRow w5.heap.size 3 1 (.slice (some ⟨W.heap.size, 0, none⟩) 0 0) 0 [] :=
  World.ownsRow_lit W #[] 0 h.low.size (by unfold maxLen; omega) rfl
theorem VS.up1 (h : VS w5 V t5 W) (z : Int) : VS w5 V t5 (W.alloc (.cells #[.int .i64 z] 3)).drew := h.below ((Below.refl _ _).alloc (Nat.le_refl _) _).drew
theorem VS.up0 (h : VS w5 V t5 W) : VS w5 V t5 (W.alloc (.cells #[] 3)) := h.below ((Below.refl _ _).alloc (Nat.le_refl _) _)
theorem VS.cap {g n cv : Nat} (h : VS w5 V (.slice (some ⟨g, 0, none⟩) n cv) W) : n ≤ cv := by
  rcases h.row.2 with ⟨h', h0⟩ | ⟨g', cap, cur, h', _, _, hc, _⟩
  · cases h'
  · injection h' with _ h1 h2
    omega
theorem VS.at_ {g n cv a : Nat} {y : Int} (h : VS w5 V (.slice (some ⟨g, 0, none⟩) n cv) W) (hn : V.length = n) (hy : V[a]? = some y) : W.cell? ⟨g, a, none⟩ = some (.int .i64 y) ∧ g < W.heap.size := by
  have ha := (List.getElem?_eq_some_iff.1 hy).1
  subst hn
  exact ⟨(h.row.cellAt a (by omega)).trans (by rw [List.getElem?_map, hy]; rfl), (h.row.lt g rfl).2⟩
theorem VS.to_ {g n cv a cc : Nat} (h : VS w5 V (.slice (some ⟨g, 0, none⟩) n cv) W) (hn : V.length = n) : RowAt W (.slice (some ⟨g, 0, none⟩) a cc) a ((V.take a).map (Value.int .i64)) := by
  subst hn
  refine .inr ⟨_, _, rfl, fun j u hj => ?_⟩
  have hj' := hj
  rw [List.getElem?_map, List.getElem?_take] at hj
  split at hj
  · have hlt : j < V.length := by
      have := (List.getElem?_eq_some_iff.1 hj').1
      rw [List.length_map, List.length_take] at this
      omega
    rw [Addr.add_lit, Nat.zero_add, h.row.cellAt j (by omega), List.getElem?_map]
    exact hj
  · simp at hj
theorem VS.from_ {g n cv a k cc : Nat} (h : VS w5 V (.slice (some ⟨g, 0, none⟩) n cv) W) (hn : V.length = n) (hk : k + a = n) : RowAt W (.slice (some ⟨g, a, none⟩) k cc) k ((V.drop a).map (Value.int .i64)) := by
  subst hn
  refine .inr ⟨_, _, rfl, fun j u hj => ?_⟩
  have hlt := (List.getElem?_eq_some_iff.1 hj).1
  rw [List.length_map, List.length_drop] at hlt
  rw [List.getElem?_map, List.getElem?_drop] at hj
  rw [Addr.add_lit, h.row.cellAt (a + j) (by omega), List.getElem?_map]
  exact hj
theorem VS.from2 {g n cv a k cc : Nat} {pf : Option Addr} (h : VS w5 V (.slice (some ⟨g, 0, none⟩) n cv) W) (hn : V.length = n) (hpf : (if cv = a then some (⟨g, 0, none⟩ : Addr) else some ⟨g, a, none⟩) = pf) (hk : k + a = n) : RowAt W (.slice pf k cc) k ((V.drop a).map (Value.int .i64)) := by
  subst hpf
  split
  · rename_i e
    have hc := h.cap
    have hd : V.drop a = [] := List.drop_eq_nil_of_le (by omega)
    rw [hd]
    exact .inr ⟨_, _, rfl, fun j u hj => by simp at hj⟩
  · exact h.from_ hn hk
/-- What was made in a block of its own disturbs no row that was there. -/
theorem own_kept {base k cp : Nat} {v : Value} {o : Obj} {W2 : World} (h : W.ownsRow base 3 1 v n xs) (hb : Below W.heap.size W W2) (hk : k = W.heap.size) (hg : W2.grownBy W1 (Value.slice (some ⟨k, 0, none⟩) m cp).ownBlock) (_ : o = o) : W1.ownsRow base 3 1 v n xs := by
  refine World.ownsRow.kept (own_below h hb) hg (.inr fun e => ?_)
  have h1 := (h.lt k (by rw [e]; simp [Value.ownBlock])).2
  omega
theorem VS.mid (h : VS w5 V t5 W) (hg : (W.alloc (.cells #[.int .i64 z] 3)).drew.grownBy w7 (Value.slice (some ⟨W.heap.size, 0, none⟩) 1 1).ownBlock) : VS w5 V t5 w7 :=
  ⟨own_kept h.row ((Below.refl _ _).alloc (Nat.le_refl _) _).drew rfl hg (rfl : Obj.map #[] 0 = _), (h.up1 z).low.grown hg (h.up1 z).low.size fun k hk => by
    simp [Value.ownBlock] at hk
    have := h.low.size
    omega⟩
theorem VS.mid0 (h : VS w5 V t5 W) (hr : W.ownsRow w5.heap.size 3 1 v7 n xs) (hg : (W.alloc (.cells #[] 3)).grownBy w8 (Value.slice (some ⟨W.heap.size, 0, none⟩) 0 0).ownBlock) : w8.ownsRow w5.heap.size 3 1 v7 n xs ∧ Below w5.heap.size w5 w8 :=
  ⟨own_kept hr ((Below.refl _ _).alloc (Nat.le_refl _) _) rfl hg (rfl : Obj.map #[] 0 = _), h.up0.low.grown hg h.up0.low.size fun k hk => by
    simp [Value.ownBlock] at hk
    have := h.low.size
    omega⟩
theorem VS.last {a : Nat} (hr : w8.ownsRow w5.heap.size 3 1 v8 n xs) (hb : Below w5.heap.size w5 w8) (ho : w9.ownsRow w5.heap.size 3 1 v9 (n + m) (xs ++ ys)) (hg : w8.grownBy w9 v8.ownBlock) (hn : n = (V.take a).length) (hx : xs = (V.take a).map (Value.int .i64)) (hm : m = (z :: V.drop a).length) (hy : ys = (z :: V.drop a).map (Value.int .i64)) : VS w5 (insL V a z) v9 w9 := by
  subst hn hx hm hy
  refine ⟨?_, hb.grown hg hb.size fun k hk => (hr.lt k hk).1⟩
  unfold insL
  rw [List.length_append, List.map_append]
  exact ho
/-- What is told of one number more is in the row. -/
theorem told_more {L : List Nd} {f : Int} {i : Nat} (hz : valueP (endP L i f) = z) (h : ∀ x, x ∈ V ↔ ∃ n, n < i ∧ valueP (endP L n f) = x) (x : Int) : (x = z ∨ x ∈ V) ↔ ∃ n, n < i + 1 ∧ valueP (endP L n f) = x := by
  constructor
  · rintro (rfl | hx)
    · exact ⟨i, by omega, hz⟩
    · obtain ⟨n, hn, he⟩ := (h x).1 hx
      exact ⟨n, by omega, he⟩
  · rintro ⟨n, hn, he⟩
    by_cases e : n = i
    · subst e
      exact .inl (he.symm.trans hz)
    · exact .inr ((h x).2 ⟨n, by omega, he⟩)
end
section
variable {W : World} {A : Option Addr} {c lim : Nat} {L : List Nd} {f : Int}
set_option maxRecDepth 100000 in
theorem rvals_none (h : RefA W A c L) (hf : hasP L.length f = false) : Calls Try.prog 17 #[.agg #[.int .i64 lim, .slice A L.length c], .int .i64 f] W fun e w' => e = .returned (.slice none 0 0) ∧ Below W.heap.size W w' := by
  have hb := (Below.refl W.heap.size W).alloc (Nat.le_refl _) (.cells #[.int .i64 lim, .slice A L.length c] 27)
  have hk := Blk.new W 27 #[.int .i64 lim, .slice A L.length c]
  obtain ⟨W1, hW1⟩ : ∃ W1, W.alloc (.cells #[.int .i64 lim, .slice A L.length c] 27) = W1 := ⟨_, rfl⟩
  rw [hW1] at hb hk
  have HBx : Hid (BoxR W.heap.size lim L A c W1) := Lib.hid ⟨h.below hb, hk⟩
  have HB := Lib.hid hb
  obtain ⟨c2, c0, c1⟩ := HBx.out.cells
  have HH0 : Hid (Calls Try.prog 34 #[.agg #[.int .i64 lim, .slice A L.length c], .int .i64 f] W1 (RetRB (.bool false) W1)) := Lib.hid (by rw [← hf]; exact rhas_any HBx.out.ref)
  clear h hb hk hf
  go_enter Try.func17, Try.ntmps17
  go_wp2_with (go_at_call 34; ((with_reducible refine HH0.out.mono ?_); rintro e w3 ⟨rfl, hb3⟩))
  go_ret
  exact ⟨rfl, HB.out.trans (hb3.mono HB.out.size)⟩
set_option maxRecDepth 100000 in
set_option maxHeartbeats 6400000 in
theorem rvals_any (h : RefA W A c L) (hR : RightL L) (hf : hasP L.length f = true) : Calls Try.prog 17 #[.agg #[.int .i64 lim, .slice A L.length c], .int .i64 f] W (RetRV L f W) := by
  have hinfo : (Try.prog.info? 3).map (fun i => (i.zero, i.size, i.bytes)) = some (some (.int .i64 0), 1, 8) := by kernel_rfl
  obtain ⟨i0, hi, hz0, hz1, hz2⟩ := info_parts hinfo
  have HI0 := Lib.hid (And.intro hi (And.intro hz0 (And.intro hz1 hz2)))
  have hb := (Below.refl W.heap.size W).alloc (Nat.le_refl _) (.cells #[.int .i64 lim, .slice A L.length c] 27)
  have hk := Blk.new W 27 #[.int .i64 lim, .slice A L.length c]
  obtain ⟨W1, hW1⟩ : ∃ W1, W.alloc (.cells #[.int .i64 lim, .slice A L.length c] 27) = W1 := ⟨_, rfl⟩
  rw [hW1] at hb hk
  have HBx : Hid (BoxR W.heap.size lim L A c W1) := Lib.hid ⟨h.below hb, hk⟩
  have HB := Lib.hid hb
  obtain ⟨c2, c0, c1⟩ := HBx.out.cells
  have HH0 : Hid (Calls Try.prog 34 #[.agg #[.int .i64 lim, .slice A L.length c], .int .i64 f] W1 (RetRB (.bool true) W1)) := Lib.hid (by rw [← hf]; exact rhas_any HBx.out.ref)
  have HU := Lib.hid hR
  clear h hb hk hf hR hinfo hi hz0 hz1 hz2
  go_enter Try.func17, Try.ntmps17
  go_wp2_with (first
    | (go_at_call 34; ((with_reducible refine HH0.out.mono ?_); rintro e w3 ⟨rfl, hb3⟩); have HBx3 := Lib.hid (HBx.out.below hb3); have HB3 := Lib.hid (HB.out.trans (hb3.mono HB.out.size)); obtain ⟨d2, d0, d1⟩ := HBx3.out.cells; clear hb3)
    | (go_at_call 35; ((with_reducible refine (tell_any (lim := lim) (f := f) HBx3.out.ref HU.out).mono ?_); rintro e w5 ⟨g5, c5, rfl, hr5, hb5⟩); have HB5 := Lib.hid (HB3.out.trans (hb5.mono HB3.out.size)); have HR5 := Lib.hid hr5; clear hr5 hb5))
  have hg5 : g5 < w5.heap.size := (HR5.out.lt g5 rfl).2
  go_loopg [5, 7] 4096 (fun gk t5 t7 wr => ∃ (i : Nat) (V : List Int), i + gk = 4096 ∧ t7 = .int .i64 (i : Int) ∧ wr.ownsRow w5.heap.size 3 1 t5 V.length (V.map (Value.int .i64)) ∧ (V = [] → t5 = .slice none 0 0) ∧ ((V.Pairwise fun x y => x < y) ∧ (∀ x, x ∈ V ↔ ∃ n, n < i ∧ valueP (endP L n f) = x) ∧ V.length ≤ i) ∧ Below w5.heap.size w5 wr)
  case atStart => exact ⟨0, [], by omega, rfl, World.ownsRow_nil _ _ _ _, fun _ => rfl, ⟨List.Pairwise.nil, fun x => Iff.intro (fun h => absurd h (by simp)) (fun h => by obtain ⟨n, h, _⟩ := h; exact absurd h (Nat.not_lt_zero _)), Nat.le_refl _⟩, Below.refl _ _⟩
  case round =>
    rename Nat => g0
    obtain ⟨i, V, hi, rfl, hV, hnil, hss, hbw⟩ := hrel
    have HI := Lib.hid hi
    have HV := Lib.hid hV
    have HSS := Lib.hid hss
    have HB2 := Lib.hid hbw
    have hlen := hss.2.2
    have hgw := Nat.lt_of_lt_of_le hg5 hbw.size
    clear hi hV hss hbw
    by_cases hir : i < 4096
    · obtain ⟨z, hz⟩ : ∃ z, valueP (endP L i f) = z := ⟨_, rfl⟩
      have HC : Hid (∀ W, Below w5.heap.size w5 W → g5 < W.heap.size ∧ W.cell? ⟨g5, i, none⟩ = some (.int .i64 z)) := Lib.hid fun W hb => ⟨Nat.lt_of_lt_of_le hg5 hb.size, (hb.cell (p := ⟨g5, i, none⟩) hg5).trans ((HR5.out.cellAt i (by omega)).trans (by rw [List.getElem?_map, tellUp_at L f hir, hz]; rfl))⟩
      have hce := (HC.out _ HB2.out).2
      have HZ := Lib.hid hz
      clear hz
      by_cases hVe : V = []
      · subst hVe
        obtain rfl := hnil rfl
        have HS : Hid (VS w5 [] (.slice none 0 0) wr) := Lib.hid ⟨HV.out, HB2.out⟩
        have HBd : Hid ((1 + 0 ≤ maxLen ∧ (1 + 0) * 8 ≤ 140737488355328 ∧ 0 + 0 ≤ maxLen ∧ (0 + 0) * 8 ≤ 140737488355328 ∧ (0 + 0) + (1 + 0) ≤ maxLen ∧ ((0 + 0) + (1 + 0)) * 8 ≤ 140737488355328)) := Lib.hid (by unfold maxLen; omega)
        go_wp2_with fail
        go_loopg [8] 0 (fun gq t8 wq => t8 = .int .i64 0 ∧ wq = wr)
        case atStart => exact ⟨rfl, rfl⟩
        case round =>
          rename Nat => g1
          obtain ⟨rfl, rfl⟩ := hrel
          go_wp2_with fail
          go_quiet (fail)
          obtain ⟨wa, hwx⟩ : ∃ wx, wr.drewN nq = wx := ⟨_, rfl⟩
          have HS := Lib.hid (HS.out.below (drewN_below wr nq))
          rw [hwx] at HS ⊢
          clear hwx hce hgw
          have hce := (HC.out _ HS.out.low).2
          have hgw := (HC.out _ HS.out.low).1
          go_wp2_with fail
          go_quiet (fail)
          obtain ⟨wb, hwx⟩ : ∃ wx, wa.drewN nq = wx := ⟨_, rfl⟩
          have HS := Lib.hid (HS.out.below (drewN_below wa nq))
          rw [hwx] at HS ⊢
          clear hwx hce hgw
          have hce := (HC.out _ HS.out.low).2
          have hgw := (HC.out _ HS.out.low).1
          go_wp2_with fail
          have HZl := Lib.hid (HS.out.lit z)
          have HU1 := Lib.hid (HS.out.up1 z)
          obtain ⟨hi, hz0, hz1, hz2⟩ := HI0.out
          go_region_law (first
            | (refine step_append_rows rfl (.tmp 57) (.tmp 60) 39 rfl w5.heap.size 3 i0 (.int .i64 0) 1 8 Try.underlying39 hi hz0 hz1 hz2 rfl (by decide) (.slice (some ⟨wb.heap.size, 0, none⟩) 1 1) 1 [.int .i64 z] (by simp [Act.eval]) HZl.out (.slice none 0 0) 0 [] (by simp [Act.eval]) (.inl ⟨rfl, rfl, rfl⟩) (rfl) (ints_one []) HBd.out.1 HBd.out.2.1 HU1.out.low.size ?_; intro v7 w7 ho7 hg7 hv7; have HR7 := Lib.hid ho7; have HS7 := Lib.hid (HS.out.mid hg7); clear ho7 hg7 hv7))
          have HL0 := Lib.hid HS7.out.lit0
          have HU0 := Lib.hid HS7.out.up0
          go_wp2_with (first
            | (at_builtin; refine wpList_append_rows rfl _ _ 39 rfl w5.heap.size 3 i0 (.int .i64 0) 1 8 Try.underlying39 hi hz0 hz1 hz2 rfl (by decide) _ _ _ rfl HL0.out (.slice none 0 0) 0 [] rfl (.inl ⟨rfl, rfl, rfl⟩) (rfl) (ints_one []) HBd.out.2.2.1 HBd.out.2.2.2.1 HU0.out.low.size ?_; intro v8 w8 ho8 hg8 hv8; have HR8 := Lib.hid ho8; have HS8 := Lib.hid (HS7.out.mid0 HR7.out hg8); clear ho8 hg8 hv8)
            | (at_builtin; refine wpList_append_rows rfl _ _ 39 rfl w5.heap.size 3 i0 (.int .i64 0) 1 8 Try.underlying39 hi hz0 hz1 hz2 rfl (by decide) _ _ _ rfl HR8.out _ _ _ rfl (rowAt_own HS8.out.1) (rfl) ((ints_one [z])) HBd.out.2.2.2.2.1 HBd.out.2.2.2.2.2 HS8.out.2.size ?_; intro v9 w9 ho9 hg9 hv9; have HS9 : Hid (VS w5 (insL [] 0 z) v9 w9) := Lib.hid (VS.last HR8.out HS8.out.2 ho9 hg9 (by rfl) (by rfl) (by rfl) (by rfl)); clear ho9 hg9 hv9))
          have hi := HI.out
          go_roundg (g0 - 1)
          case measure => omega
          case rel => exact ⟨i + 1, insL [] 0 z, by omega, by simp, HS9.out.row, fun h => absurd (congrArg List.length h) (by rw [ins_len]; simp), ⟨ins_rise HSS.out.1 (fun j x h _ => absurd h (Nat.not_lt_zero _)) (fun y h => by simp at h), fun x => (ins_mem _ _ _ _).trans (told_more HZ.out HSS.out.2.1 x), by rw [ins_len]; have := HSS.out.2.2; omega⟩, HS9.out.low⟩
      · obtain ⟨N, hN⟩ : ∃ N, V.length = N + 1 := ⟨V.length - 1, by have := List.length_pos_iff.2 hVe; omega⟩
        have HNe := Lib.hid hVe
        have HN := Lib.hid hN
        rw [hN] at HV hlen
        obtain ⟨g, cv, rfl⟩ := row_form HV.out
        obtain ⟨n, hn⟩ : ∃ n, N + 1 = n := ⟨_, rfl⟩
        rw [hn] at HV HN hN hlen ⊢
        have HS0 : Hid (VS w5 V (.slice (some ⟨g, 0, none⟩) n cv) wr) := Lib.hid ⟨by rw [hN]; exact HV.out, HB2.out⟩
        have hcap : n ≤ cv := HS0.out.cap
        clear hN hVe hnil hn
        go_wp2_with fail
        go_loopg [8] n (fun gq t8 wq => ∃ a : Nat, a + gq = n ∧ t8 = .int .i64 (a : Int) ∧ VS w5 V (.slice (some ⟨g, 0, none⟩) n cv) wq ∧ ∀ (j : Nat) (x : Int), j < a → V[j]? = some x → x < z)
        case atStart => exact ⟨0, by omega, rfl, HS0.out, fun j x h _ => absurd h (Nat.not_lt_zero _)⟩
        case round =>
          rename Nat => g1
          clear hce hgw
          obtain ⟨a, ha, rfl, hS, hall⟩ := hrel
          have HS := Lib.hid hS
          have HJ := Lib.hid ha
          have HAll := Lib.hid hall
          have hce := (HC.out _ hS.low).2
          have hgw := (HC.out _ hS.low).1
          clear ha hS hall
          by_cases haN : a < n
          · obtain ⟨y, hy⟩ : ∃ y, V[a]? = some y := ⟨_, List.getElem?_eq_getElem (by have := HN.out; omega)⟩
            have HY := Lib.hid hy
            have hcv := (HS.out.at_ HN.out hy).1
            have hgv := (HS.out.at_ HN.out hy).2
            clear hy
            by_cases hyz : y < z
            · have hd : decide (y < z) = true := decide_eq_true hyz
              have HYz := Lib.hid hyz
              go_wp2_with fail
              go_quiet (fail)
              go_wp2_with fail
              have ha := HJ.out
              go_roundg (g1 - 1)
              case measure => omega
              case rel => exact ⟨a + 1, by omega, by simp, HS.out.below (drewN_below _ _), fun j x hj hx => by
                by_cases e : j = a
                · subst e; rw [HY.out] at hx; injection hx with hx; subst hx; exact HYz.out
                · exact HAll.out j x (by omega) hx⟩
            · have hd : decide (y < z) = false := decide_eq_false hyz
              have hda : ((a : Int) == (n : Int)) = false := by simp; omega
              have hle : a ≤ n := by omega
              have hle2 : a ≤ cv := by omega
              by_cases hye : y = z
              · subst hye
                go_wp2_with fail
                go_quiet (fail)
                obtain ⟨wa, hwx⟩ : ∃ wx, wr.drewN nq = wx := ⟨_, rfl⟩
                have HS := Lib.hid (HS.out.below (drewN_below wr nq))
                rw [hwx] at HS ⊢
                clear hwx hce hgw hcv hgv
                have hce := (HC.out _ HS.out.low).2
                have hgw := (HC.out _ HS.out.low).1
                have hcv := (HS.out.at_ HN.out HY.out).1
                have hgv := (HS.out.at_ HN.out HY.out).2
                go_wp2_with fail
                go_quiet (fail)
                obtain ⟨wb, hwx⟩ : ∃ wx, wa.drewN nq = wx := ⟨_, rfl⟩
                have HS := Lib.hid (HS.out.below (drewN_below wa nq))
                rw [hwx] at HS ⊢
                clear hwx hce hgw hcv hgv
                have hce := (HC.out _ HS.out.low).2
                have hgw := (HC.out _ HS.out.low).1
                have hcv := (HS.out.at_ HN.out HY.out).1
                have hgv := (HS.out.at_ HN.out HY.out).2
                go_wp2_with fail
                have hi := HI.out
                go_roundg (g0 - 1)
                case measure => omega
                case rel => exact ⟨i + 1, V, by omega, by simp, HS.out.row, fun h => absurd h HNe.out, ⟨HSS.out.1, fun x => Iff.trans ⟨fun h => .inr h, fun h => h.elim (fun e => e ▸ List.mem_of_getElem? HY.out) id⟩ (told_more HZ.out HSS.out.2.1 x), by have := HSS.out.2.2; omega⟩, HS.out.low⟩
              · have hdy : (y == z) = false := by simpa using hye
                have HLast : Hid (∀ q, V[a]? = some q → z < q) := Lib.hid fun q hq => by rw [HY.out] at hq; injection hq with hq; omega
                obtain ⟨pf, hpf⟩ : ∃ pf : Option Addr, (if cv = a then some (⟨g, 0, none⟩ : Addr) else some ⟨g, a, none⟩) = pf := ⟨_, rfl⟩
                go_wp2_with fail
                go_quiet (fail)
                obtain ⟨wa, hwx⟩ : ∃ wx, wr.drewN nq = wx := ⟨_, rfl⟩
                have HS := Lib.hid (HS.out.below (drewN_below wr nq))
                rw [hwx] at HS ⊢
                clear hwx hce hgw hcv hgv
                have hce := (HC.out _ HS.out.low).2
                have hgw := (HC.out _ HS.out.low).1
                have hcv := (HS.out.at_ HN.out HY.out).1
                have hgv := (HS.out.at_ HN.out HY.out).2
                go_wp2_with fail
                go_quiet (fail)
                obtain ⟨wb, hwx⟩ : ∃ wx, wa.drewN nq = wx := ⟨_, rfl⟩
                have HS := Lib.hid (HS.out.below (drewN_below wa nq))
                rw [hwx] at HS ⊢
                clear hwx hce hgw hcv hgv
                have hce := (HC.out _ HS.out.low).2
                have hgw := (HC.out _ HS.out.low).1
                have hcv := (HS.out.at_ HN.out HY.out).1
                have hgv := (HS.out.at_ HN.out HY.out).2
                go_wp2_with fail
                have HBd : Hid ((1 + (n - a) ≤ maxLen ∧ (1 + (n - a)) * 8 ≤ 140737488355328) ∧ (0 + a ≤ maxLen ∧ (0 + a) * 8 ≤ 140737488355328) ∧ (0 + a) + (1 + (n - a)) ≤ maxLen ∧ ((0 + a) + (1 + (n - a))) * 8 ≤ 140737488355328) := Lib.hid (by unfold maxLen; omega)
                have HLn : Hid (((V.drop a).map (Value.int .i64)).length = (n - a) * 1 ∧ ((V.take a).map (Value.int .i64)).length = a * 1 ∧ ([Value.int .i64 z] ++ (V.drop a).map (Value.int .i64)).length = (1 + (n - a)) * 1 ∧ 0 + a = (V.take a).length ∧ 1 + (n - a) = (z :: V.drop a).length) := Lib.hid (by
                  have := HN.out
                  simp only [List.length_map, List.length_drop, List.length_take, List.length_append, List.length_cons, List.length_nil]
                  omega)
                have HPf : Hid ((if cv = a then some (⟨g, 0, none⟩ : Addr) else some ⟨g, a, none⟩) = pf ∧ (n - a) + a = n) := Lib.hid ⟨hpf, by omega⟩
                have HZl := Lib.hid (HS.out.lit z)
                have HU1 := Lib.hid (HS.out.up1 z)
                obtain ⟨hi, hz0, hz1, hz2⟩ := HI0.out
                go_region_law (first
                  | (refine step_append_rows rfl (.tmp 57) (.tmp 60) 39 rfl w5.heap.size 3 i0 (.int .i64 0) 1 8 Try.underlying39 hi hz0 hz1 hz2 rfl (by decide) (.slice (some ⟨wb.heap.size, 0, none⟩) 1 1) 1 [.int .i64 z] (by simp [Act.eval]) HZl.out (.slice pf ((n - a)) (cv - a)) ((n - a)) ((V.drop a).map (Value.int .i64)) (by simp [Act.eval]) (HU1.out.from2 HN.out HPf.out.1 HPf.out.2) HLn.out.1 (ints_one _) HBd.out.1.1 HBd.out.1.2 HU1.out.low.size ?_; intro v7 w7 ho7 hg7 hv7; have HR7 := Lib.hid ho7; have HS7 := Lib.hid (HS.out.mid hg7); clear ho7 hg7 hv7))
                have HL0 := Lib.hid HS7.out.lit0
                have HU0 := Lib.hid HS7.out.up0
                go_wp2_with (first
                  | (at_builtin; refine wpList_append_rows rfl _ _ 39 rfl w5.heap.size 3 i0 (.int .i64 0) 1 8 Try.underlying39 hi hz0 hz1 hz2 rfl (by decide) _ _ _ rfl HL0.out _ a ((V.take a).map (Value.int .i64)) rfl (HU0.out.to_ HN.out) HLn.out.2.1 (ints_one _) HBd.out.2.1.1 HBd.out.2.1.2 HU0.out.low.size ?_; intro v8 w8 ho8 hg8 hv8; have HR8 := Lib.hid ho8; have HS8 := Lib.hid (HS7.out.mid0 HR7.out hg8); clear ho8 hg8 hv8)
                  | (at_builtin; refine wpList_append_rows rfl _ _ 39 rfl w5.heap.size 3 i0 (.int .i64 0) 1 8 Try.underlying39 hi hz0 hz1 hz2 rfl (by decide) _ _ _ rfl HR8.out _ _ _ rfl (rowAt_own HS8.out.1) HLn.out.2.2.1 (ints_one (z :: V.drop a)) HBd.out.2.2.1 HBd.out.2.2.2 HS8.out.2.size ?_; intro v9 w9 ho9 hg9 hv9; have HS9 : Hid (VS w5 (insL V a z) v9 w9) := Lib.hid (VS.last HR8.out HS8.out.2 ho9 hg9 HLn.out.2.2.2.1 rfl HLn.out.2.2.2.2 rfl); clear ho9 hg9 hv9))
                have hi := HI.out
                go_roundg (g0 - 1)
                case measure => omega
                case rel => exact ⟨i + 1, insL V a z, by omega, by simp, HS9.out.row, fun h => absurd (congrArg List.length h) (by rw [ins_len]; simp), ⟨ins_rise HSS.out.1 HAll.out HLast.out, fun x => (ins_mem _ _ _ _).trans (told_more HZ.out HSS.out.2.1 x), by rw [ins_len]; have := HSS.out.2.2; omega⟩, HS9.out.low⟩
          · have haE : a = n := by have := HJ.out; omega
            subst haE
            obtain ⟨pf, hpf⟩ : ∃ pf : Option Addr, (if cv = a then some (⟨g, 0, none⟩ : Addr) else some ⟨g, a, none⟩) = pf := ⟨_, rfl⟩
            have HLast : Hid (∀ y, V[a]? = some y → z < y) := Lib.hid fun y hy => by have := (List.getElem?_eq_some_iff.1 hy).1; have := HN.out; omega
            go_wp2_with fail
            go_quiet (fail)
            obtain ⟨wa, hwx⟩ : ∃ wx, wr.drewN nq = wx := ⟨_, rfl⟩
            have HS := Lib.hid (HS.out.below (drewN_below wr nq))
            rw [hwx] at HS ⊢
            clear hwx hce hgw
            have hce := (HC.out _ HS.out.low).2
            have hgw := (HC.out _ HS.out.low).1
            go_wp2_with fail
            go_quiet (fail)
            obtain ⟨wb, hwx⟩ : ∃ wx, wa.drewN nq = wx := ⟨_, rfl⟩
            have HS := Lib.hid (HS.out.below (drewN_below wa nq))
            rw [hwx] at HS ⊢
            clear hwx hce hgw
            have hce := (HC.out _ HS.out.low).2
            have hgw := (HC.out _ HS.out.low).1
            go_wp2_with fail
            have HBd : Hid ((1 + 0 ≤ maxLen ∧ (1 + 0) * 8 ≤ 140737488355328) ∧ (0 + a ≤ maxLen ∧ (0 + a) * 8 ≤ 140737488355328) ∧ (0 + a) + (1 + 0) ≤ maxLen ∧ ((0 + a) + (1 + 0)) * 8 ≤ 140737488355328) := Lib.hid (by unfold maxLen; omega)
            have HLn : Hid (((V.drop a).map (Value.int .i64)).length = 0 * 1 ∧ ((V.take a).map (Value.int .i64)).length = a * 1 ∧ ([Value.int .i64 z] ++ (V.drop a).map (Value.int .i64)).length = (1 + 0) * 1 ∧ 0 + a = (V.take a).length ∧ 1 + 0 = (z :: V.drop a).length) := Lib.hid (by
              have := HN.out
              simp only [List.length_map, List.length_drop, List.length_take, List.length_append, List.length_cons, List.length_nil]
              omega)
            have HPf : Hid ((if cv = a then some (⟨g, 0, none⟩ : Addr) else some ⟨g, a, none⟩) = pf ∧ 0 + a = a) := Lib.hid ⟨hpf, by omega⟩
            have HZl := Lib.hid (HS.out.lit z)
            have HU1 := Lib.hid (HS.out.up1 z)
            obtain ⟨hi, hz0, hz1, hz2⟩ := HI0.out
            go_region_law (first
              | (refine step_append_rows rfl (.tmp 57) (.tmp 60) 39 rfl w5.heap.size 3 i0 (.int .i64 0) 1 8 Try.underlying39 hi hz0 hz1 hz2 rfl (by decide) (.slice (some ⟨wb.heap.size, 0, none⟩) 1 1) 1 [.int .i64 z] (by simp [Act.eval]) HZl.out (.slice pf (0) (cv - a)) (0) ((V.drop a).map (Value.int .i64)) (by simp [Act.eval]) (HU1.out.from2 HN.out HPf.out.1 HPf.out.2) HLn.out.1 (ints_one _) HBd.out.1.1 HBd.out.1.2 HU1.out.low.size ?_; intro v7 w7 ho7 hg7 hv7; have HR7 := Lib.hid ho7; have HS7 := Lib.hid (HS.out.mid hg7); clear ho7 hg7 hv7))
            have HL0 := Lib.hid HS7.out.lit0
            have HU0 := Lib.hid HS7.out.up0
            go_wp2_with (first
              | (at_builtin; refine wpList_append_rows rfl _ _ 39 rfl w5.heap.size 3 i0 (.int .i64 0) 1 8 Try.underlying39 hi hz0 hz1 hz2 rfl (by decide) _ _ _ rfl HL0.out _ a ((V.take a).map (Value.int .i64)) rfl (HU0.out.to_ HN.out) HLn.out.2.1 (ints_one _) HBd.out.2.1.1 HBd.out.2.1.2 HU0.out.low.size ?_; intro v8 w8 ho8 hg8 hv8; have HR8 := Lib.hid ho8; have HS8 := Lib.hid (HS7.out.mid0 HR7.out hg8); clear ho8 hg8 hv8)
              | (at_builtin; refine wpList_append_rows rfl _ _ 39 rfl w5.heap.size 3 i0 (.int .i64 0) 1 8 Try.underlying39 hi hz0 hz1 hz2 rfl (by decide) _ _ _ rfl HR8.out _ _ _ rfl (rowAt_own HS8.out.1) HLn.out.2.2.1 (ints_one (z :: V.drop a)) HBd.out.2.2.1 HBd.out.2.2.2 HS8.out.2.size ?_; intro v9 w9 ho9 hg9 hv9; have HS9 : Hid (VS w5 (insL V a z) v9 w9) := Lib.hid (VS.last HR8.out HS8.out.2 ho9 hg9 HLn.out.2.2.2.1 rfl HLn.out.2.2.2.2 rfl); clear ho9 hg9 hv9))
            have hi := HI.out
            go_roundg (g0 - 1)
            case measure => omega
            case rel => exact ⟨i + 1, insL V a z, by omega, by simp, HS9.out.row, fun h => absurd (congrArg List.length h) (by rw [ins_len]; simp), ⟨ins_rise HSS.out.1 HAll.out HLast.out, fun x => (ins_mem _ _ _ _).trans (told_more HZ.out HSS.out.2.1 x), by rw [ins_len]; have := HSS.out.2.2; omega⟩, HS9.out.low⟩
    · have hie : i = 4096 := by have := HI.out; omega
      subst hie
      go_wp2_with fail
      go_ret
      exact ⟨V, _, rfl, row_up HV.out HB5.out.size, HSS.out.1, HSS.out.2.1, HSS.out.2.2, HB5.out.trans (HB2.out.mono HB5.out.size)⟩
end
end Go.Proofs.Ytcolinjgfcjimaa
