/- Put together of: RRow, RBase, RShrink, RClose, RClean, RSets, LSame. -/
import Derived.Test.YtlkbapcienjdcaaDoorGSettle
import Derived.Maps.AppendAt
import Derived.Laws.OwnMore
import Derived.Test.YtlkbapcienjdcaaDoorGClose
import Derived.Test.YtlkbapcienjdcaaDoorRWalks
import Derived.Deep.LoopGhost
import Derived.BigQuiet
import Derived.Test.YtlkbapcienjdcaaDoorGSets
/- (zone) The law of append where what is appended is a row that may be nil. -/
namespace Go.Proofs.YtlkbapcienjdcaaDoor
open Go.RowKit

/-- A row that is read: nil, or its cells lie there. -/
def RowAt (w : World) (x : Value) (m : Nat) (ys : List Value) : Prop := (x = .slice none 0 0 ∧ m = 0 ∧ ys = []) ∨ ∃ ad c, x = .slice (some ad) m c ∧ ∀ j u, ys[j]? = some u → w.cell? (ad.add j) = some u
theorem rowAt_own {w : World} {base : Nat} {e : TypeId} {size : Nat} {v : Value} {n : Nat} {xs : List Value} (h : w.ownsRow base e size v n xs) : RowAt w v n xs := by
  rcases h.2 with ⟨h1, h2⟩ | ⟨g, cap, cur, h1, -⟩
  · refine .inl ⟨h1, h2, List.eq_nil_of_length_eq_zero ?_⟩
    rw [h.1, h2, Nat.zero_mul]
  · subst h1
    exact .inr ⟨_, _, rfl, h.cells (g := g) rfl⟩
theorem run_append_rows {P : Program} (w : World) (base : Nat) (t ty e : TypeId) (i : TypeInfo) (z : Value) (size bytes : Nat) (ht : P.underlying t = some (.slice e)) (hi : P.info? e = some i) (hz : i.zero = some z)
    (hsize : i.size = size) (hby : i.bytes = bytes) (hzs : z.cells.size = size) (hsz : 0 < size)
    (v : Value) (n : Nat) (xs : List Value) (hown : w.ownsRow base e size v n xs)
    (x : Value) (m : Nat) (news : List Value) (hx : RowAt w x m news) (hl : news.length = m * size) (h1 : ∀ u ∈ news, u.oneCell' = true)
    (h63 : n + m ≤ maxLen) (hbytes : (n + m) * bytes ≤ 140737488355328) (hbase : base ≤ w.heap.size) :
    ∃ v' w', (Builtin.append_ #[t, t] ty #[v, x]).run P w = .ok v' w' ∧ w'.ownsRow base e size v' (n + m) (xs ++ news) ∧ w.grownBy w' v.ownBlock ∧ (v'.ownBlock = v.ownBlock ∨ v'.ownBlock = some w.heap.size) := by
  rcases hx with ⟨rfl, rfl, rfl⟩ | ⟨ad, c, rfl, hnews⟩
  · subst hsize
    refine ⟨v, w, ?_, by simpa using hown, ⟨rfl, rfl, rfl, Nat.le_refl _, fun _ _ _ => rfl⟩, .inl rfl⟩
    rcases hown.2 with ⟨rfl, rfl⟩ | ⟨g, cap, cur, rfl, hbg, hg, hnc, hcm, hcs, htake⟩
    · simp [Builtin.append_, run_underlying ht, sizeOf, typeInfo, hi, Builtin.lenOf, Builtin.firstCells]
    · simp [Builtin.append_, run_underlying ht, sizeOf, typeInfo, hi, Builtin.lenOf, Builtin.firstCells, loadCells, hnc, storeCells]
  · obtain ⟨v', w', k1, k2, k3, -, k5⟩ := run_append_own_at (P := P) w base t ty e i z size bytes ht hi hz hsize hby hzs hsz v n xs hown ad m c news hl hnews h1 h63 hbytes hbase
    exact ⟨v', w', k1, k2, k3, k5⟩
theorem wpList_append_rows {P : Program} {w : World} {ops : Array Oper} {rest : List Oper} {o : Oper} {a : Act} {Q : Exit → Act → World → Prop} (hgd : o.guard = none) (s x : Operand) (t : TypeId)
    (ho : o.op = .call { callee := .builtin .append, args := #[s, x], argTypes := #[t, t] })
    (base : Nat) (e : TypeId) (i : TypeInfo) (z : Value) (size bytes : Nat) (ht : P.underlying t = some (.slice e)) (hi : P.info? e = some i) (hz : i.zero = some z)
    (hsize : i.size = size) (hby : i.bytes = bytes) (hzs : z.cells.size = size) (hsz : 0 < size)
    (v : Value) (n : Nat) (xs : List Value) (hs : a.eval s = v) (hown : w.ownsRow base e size v n xs)
    (y : Value) (m : Nat) (news : List Value) (hx : a.eval x = y) (hr : RowAt w y m news) (hl : news.length = m * size) (h1 : ∀ u ∈ news, u.oneCell' = true)
    (h63 : n + m ≤ maxLen) (hbytes : (n + m) * bytes ≤ 140737488355328) (hbase : base ≤ w.heap.size)
    (h : ∀ v' w', w'.ownsRow base e size v' (n + m) (xs ++ news) → w.grownBy w' v.ownBlock → (v'.ownBlock = v.ownBlock ∨ v'.ownBlock = some w.heap.size) → wpList P ops Q rest (a.put o.dst v') w') :
    wpList P ops Q (o :: rest) a w := by
  refine wpList_plain hgd fun K hK => ?_
  obtain ⟨v', w', hrun, h2, h3, h5⟩ := run_append_rows (P := P) w base t o.type e i z size bytes ht hi hz hsize hby hzs hsz v n xs hown y m news hr hl h1 h63 hbytes hbase
  unfold Oper.wp execOp
  simp only [ho, resolve, invoke, builtin, Sem.run_bind, Sem.run_pure, Result.andThen_ok, List.map_toArray, List.map_cons, List.map_nil, hs, hx, hrun]
  exact hK _ _ (h v' w' h2 h3 h5)
end Go.Proofs.YtlkbapcienjdcaaDoor

/- The contracts of the document's Most and Bottom; its shrink, in numbers. -/
namespace Go.Proofs.YtlkbapcienjdcaaDoor
open Go.RowKit
attribute [local go_sem ↓] Go.wp_at_zero Go.wp_at_succ

/-- Where a round of shrink stands: what lies before (i, j) is done, (i, j) has been compared with the first k. -/
def stg (m : Nat) (D : Mat) (i j k : Nat) : Mat := fun a b => if a < i ∨ (a = i ∧ b < j) then shr m D a b else if a = i ∧ b = j then least D a b k else D a b
theorem stg_at (m : Nat) (D : Mat) (i j k : Nat) : stg m D i j k i j = least D i j k := by
  unfold stg
  rw [if_neg (by omega), if_pos ⟨rfl, rfl⟩]
theorem stg_zero (m : Nat) (D : Mat) : stg m D 0 0 0 = D := by
  funext a b
  unfold stg
  rw [if_neg (by omega)]
  split
  · rfl
  · rfl
theorem stg_step (m : Nat) (D : Mat) (i j k : Nat) : stg m D i j (k + 1) = upd (stg m D i j k) i j (least D i j (k + 1)) := by
  funext a b
  unfold upd
  by_cases e : a = i ∧ b = j
  · obtain ⟨rfl, rfl⟩ := e
    rw [stg_at, if_pos ⟨rfl, rfl⟩]
  · rw [if_neg e]
    unfold stg
    rw [if_neg e, if_neg e]
theorem stg_same (m : Nat) (D : Mat) (i j k : Nat) (h : least D i j (k + 1) = least D i j k) : stg m D i j (k + 1) = stg m D i j k := by
  rw [stg_step, h]
  funext a b
  unfold upd
  split
  · rename_i e
    rw [e.1, e.2, stg_at]
  · rfl
theorem stg_next (m : Nat) (D : Mat) (i j : Nat) : stg m D i j m = stg m D i (j + 1) 0 := by
  funext a b
  unfold stg
  by_cases e : a < i ∨ (a = i ∧ b < j)
  · rw [if_pos e, if_pos (by omega)]
  · rw [if_neg e]
    by_cases e2 : a = i ∧ b = j
    · rw [if_pos e2, if_pos (by omega)]
      rfl
    · rw [if_neg e2, if_neg (by omega)]
      split
      · rfl
      · rfl
theorem stg_row (m : Nat) (D : Mat) (i : Nat) : Same m (stg m D i m 0) (stg m D (i + 1) 0 0) := fun a b _ hb => by
  unfold stg
  by_cases e : a < i ∨ (a = i ∧ b < m)
  · rw [if_pos e, if_pos (by omega)]
  · rw [if_neg e, if_neg (by omega), if_neg (by omega)]
    split
    · rfl
    · rfl
theorem stg_all (m : Nat) (D : Mat) : Same m (stg m D m 0 0) (shr m D) := fun a b ha _ => by
  unfold stg
  rw [if_pos (by omega)]
/-- All that was come to fits. -/
def FitUp (m : Nat) (V : Mat) (i j : Nat) : Prop := ∀ a b, a < m → b < m → (a < i ∨ (a = i ∧ b < j)) → -far a b ≤ V a b
theorem fitUp_zero (m : Nat) (V : Mat) : FitUp m V 0 0 := fun _ _ _ _ h => by omega
theorem fitUp_step {m : Nat} {V : Mat} {i j : Nat} (h : FitUp m V i j) (hx : -far i j ≤ V i j) : FitUp m V i (j + 1) := fun a b ha hb hab => by
  by_cases e : a = i ∧ b = j
  · obtain ⟨rfl, rfl⟩ := e
    exact hx
  · exact h a b ha hb (by omega)
theorem fitUp_row {m : Nat} {V : Mat} {i : Nat} (h : FitUp m V i m) : FitUp m V (i + 1) 0 := fun a b ha hb hab => h a b ha hb (by omega)
theorem fitUp_all {m : Nat} {V : Mat} (h : FitUp m V m 0) : Fits m V := fun a b ha hb => h a b ha hb (.inl ha)
theorem mul_idx {m i k : Nat} (hm : m ≤ 7) (hi : i < m) (hk : k < m) : (i : Int) * (m : Int) + (k : Int) = ((i * m + k : Nat) : Int) ∧ 0 ≤ (i : Int) * (m : Int) ∧ (i : Int) * (m : Int) ≤ 100 ∧ i * m + k < m * m := by
  have h1 := spot_lt hi hk
  have h2 : i * m ≤ 7 * 7 := Nat.mul_le_mul (by omega) hm
  refine ⟨by rw [Int.natCast_add, Int.natCast_mul], ?_, ?_, h1⟩
  · rw [← Int.natCast_mul]; omega
  · rw [← Int.natCast_mul]; omega
/-- The bounds are whole numbers' sums. -/
def InR (m : Nat) (D : Mat) : Prop := ∀ i j, i < m → j < m → -2305843009213693952 ≤ D i j ∧ D i j ≤ 2305843009213693952
theorem least_in {m : Nat} {D : Mat} (h : InR m D) {i j : Nat} (hi : i < m) (hj : j < m) : ∀ k, k ≤ m → -4611686018427387904 ≤ least D i j k ∧ least D i j k ≤ 2305843009213693952
  | 0, _ => by have := h i j hi hj; show _ ≤ D i j ∧ D i j ≤ _; omega
  | k + 1, hk => by
    have h1 := least_in h hi hj k (by omega)
    have h2 := h i k hi (by omega)
    have h3 := h k j (by omega) hj
    show _ ≤ min _ _ ∧ min _ _ ≤ _
    omega
end Go.Proofs.YtlkbapcienjdcaaDoor

/- The contract of the document's shrink: one round, or the bottom. -/
namespace Go.Proofs.YtlkbapcienjdcaaDoor
open Go.RowKit
attribute [local go_sem ↓] Go.wp_at_zero Go.wp_at_succ

theorem rdrewN_below (w : World) : ∀ q, Below w.heap.size w (w.drewN q)
  | 0 => Below.refl _ _
  | q + 1 => (rdrewN_below w q).trans (Below.refl _ _).drew

theorem row_pos {w : World} {base : Nat} {e : TypeId} {size n : Nat} {v : Value} {xs : List Value} (h : w.ownsRow base e size v n xs) (h0 : 0 < n) : ∃ g c, v = .slice (some ⟨g, 0, none⟩) n c ∧ n ≤ c := by
  rcases h.2 with ⟨_, h1⟩ | ⟨g, cap, cur, rfl, _, _, hc, _⟩
  · omega
  · exact ⟨g, cap, rfl, hc⟩
theorem ints_one (V : List Int) : ∀ u ∈ V.map (Value.int .i64), u.oneCell' = true := fun u hu => by
  obtain ⟨x, -, rfl⟩ := List.mem_map.1 hu
  rfl
/-- While shrink goes: both boxes, the zone's row, the new row. -/
structure SH (W : World) (m g cap go co : Nat) (D E : Mat) (wr : World) : Prop where
  zb : Duo wr W.heap.size 31 (.int .i64 ((m : Int) - 1)) (.slice (some ⟨g, 0, none⟩) (m * m) cap)
  rb : Duo wr (W.heap.size + 1) 31 (.int .i64 0) (.slice none 0 0)
  rowD : wr.ownsRow 0 3 1 (.slice (some ⟨g, 0, none⟩) (m * m) cap) (m * m) ((flatL m D).map (Value.int .i64))
  rowE : wr.ownsRow (W.heap.size + 2) 3 1 (.slice (some ⟨go, 0, none⟩) (m * m) co) (m * m) ((flatL m E).map (Value.int .i64))
  old : g < W.heap.size
  low : Below W.heap.size W wr
section
variable {W wr W1 : World} {m g cap go co i j : Nat} {D E E' : Mat}
theorem SH.below (h : SH W m g cap go co D E wr) (hb : Below wr.heap.size wr W1) : SH W m g cap go co D E W1 :=
  ⟨h.zb.below hb, h.rb.below hb, own_kept_below h.rowD hb, own_kept_below h.rowE hb, h.old, h.low.trans (hb.mono h.low.size)⟩
theorem SH.congr (h : SH W m g cap go co D E wr) (he : Same m E E') : SH W m g cap go co D E' wr :=
  ⟨h.zb, h.rb, h.rowD, by rw [← flat_congr he]; exact h.rowE, h.old, h.low⟩
theorem SH.set (h : SH W m g cap go co D E wr) (hj : j < m) (x : Int) : SH W m g cap go co D (upd E i j x) (wr.setCell ⟨go, i * m + j, none⟩ (.int .i64 x)) := by
  have hgo := (h.rowE.lt go rfl).1
  obtain ⟨hs, hg⟩ := h.rowE.stored (i * m + j) (.int .i64 x)
  have hne : g ≠ go := by have := h.old; omega
  refine ⟨h.zb.other (by show W.heap.size ≠ go; omega) _, h.rb.other (by show W.heap.size + 1 ≠ go; omega) _, h.rowD.kept hg (.inr (by simp [Value.ownBlock]; omega)), ?_, h.old, h.low.setCell (p := ⟨go, _, none⟩) (by show W.heap.size ≤ go; omega) _⟩
  rw [← flat_set E hj x, List.map_set]
  exact hs
theorem SH.dAt (h : SH W m g cap go co D E wr) (hi : i < m) (hj : j < m) : wr.cell? ⟨g, i * m + j, none⟩ = some (.int .i64 (D i j)) ∧ g < wr.heap.size :=
  ⟨(h.rowD.cellAt _ (by have := spot_lt hi hj; omega)).trans (by rw [List.getElem?_map, flat_at D hi hj]; rfl), (h.rowD.lt g rfl).2⟩
theorem SH.eAt (h : SH W m g cap go co D E wr) (hi : i < m) (hj : j < m) : wr.cell? ⟨go, i * m + j, none⟩ = some (.int .i64 (E i j)) ∧ wr.frozen? ⟨go, i * m + j, none⟩ = false ∧ go < wr.heap.size :=
  ⟨(h.rowE.cellAt _ (by have := spot_lt hi hj; omega)).trans (by rw [List.getElem?_map, flat_at E hi hj]; rfl), h.rowE.frozenAt _, (h.rowE.lt go rfl).2⟩
theorem SH.cells (h : SH W m g cap go co D E wr) : (wr.cell? ⟨W.heap.size, 0, none⟩ = some (.int .i64 ((m : Int) - 1)) ∧ wr.cell? ⟨W.heap.size, 1, none⟩ = some (.slice (some ⟨g, 0, none⟩) (m * m) cap)) ∧ W.heap.size < wr.heap.size := ⟨⟨h.zb.cell0, h.zb.cell1⟩, h.zb.lt⟩
theorem SH.res (h : SH W m g cap go co D E wr) : (wr.cell? ⟨W.heap.size + 1, 0, none⟩ = some (.int .i64 0) ∧ wr.cell? ⟨W.heap.size + 1, 1, none⟩ = some (.slice none 0 0)) ∧ wr.frozen? ⟨W.heap.size + 1, 0, none⟩ = false ∧ wr.frozen? ⟨W.heap.size + 1, 1, none⟩ = false ∧ W.heap.size + 1 < wr.heap.size := ⟨⟨h.rb.cell0, h.rb.cell1⟩, h.rb.frozen0, h.rb.frozen1, h.rb.lt⟩
end
/-- What shrink returns. -/
def RetShr (W : World) (m : Nat) (D : Mat) (e : Ending) (w' : World) : Prop :=
  (Fits m (shr m D) ∧ ∃ go co, e = .returned (zoneV ((m : Int) - 1) (some ⟨go, 0, none⟩) (m * m) co) ∧ w'.ownsRow W.heap.size 3 1 (.slice (some ⟨go, 0, none⟩) (m * m) co) (m * m) ((flatL m (shr m D)).map (Value.int .i64)) ∧ Below W.heap.size W w') ∨
  (¬ Fits m (shr m D) ∧ e = .returned (zoneV ((m : Int) - 1) none 0 0) ∧ Below W.heap.size W w')
/-- The result's box is written. -/
theorem res_put {W wr : World} {b : Nat} {x y : Value} (h : Duo wr b 31 x y) (hb : Below W.heap.size W wr) (hl : W.heap.size ≤ b) (u v : Value) : Duo ((wr.setCell ⟨b, 0, none⟩ u).setCell ⟨b, 1, none⟩ v) b 31 u v ∧ Below W.heap.size W ((wr.setCell ⟨b, 0, none⟩ u).setCell ⟨b, 1, none⟩ v) :=
  ⟨(h.set0 u).set1 v, (hb.setCell (p := ⟨b, 0, none⟩) hl u).setCell (p := ⟨b, 1, none⟩) hl v⟩
theorem row_put {wr : World} {b base : Nat} {x y : Value} {v0 : Value} {n : Nat} {xs : List Value} (h : Duo wr b 31 x y) (hr : wr.ownsRow base 3 1 v0 n xs) (u v : Value) : ((wr.setCell ⟨b, 0, none⟩ u).setCell ⟨b, 1, none⟩ v).ownsRow base 3 1 v0 n xs := by
  have h1 := hr.kept (duo_grown_setCell wr ⟨b, 0, none⟩ u) (.inr (h.not_row (by decide) hr).symm)
  exact h1.kept (duo_grown_setCell _ ⟨b, 1, none⟩ v) (.inr ((h.set0 u).not_row (by decide) h1).symm)
section
variable {W : World} {m g cap : Nat} {D : Mat}
end
end Go.Proofs.YtlkbapcienjdcaaDoor

/- The contract of the document's Close, and of Clean: any zone is taken as the program takes it. -/
namespace Go.Proofs.YtlkbapcienjdcaaDoor
open Go.RowKit
attribute [local go_sem ↓] Go.wp_at_zero Go.wp_at_succ

theorem shrN_cap {m : Nat} {A : Mat} : ∀ (r i j : Nat), shrN m A r i j ≤ cap A i j
  | 0, _, _ => Int.le_refl _
  | r + 1, i, j => Int.le_trans (shrN_mono r i j) (shrN_cap r i j)
theorem shrN_in {m : Nat} {A : Mat} {r : Nat} (h : Fits m (shrN m A r)) : InR m (shrN m A r) := fun i j hi hj => by
  have h1 := h i j hi hj
  have h2 := shrN_cap (m := m) (A := A) r i j
  have h3 := (cap_le A i j).2
  have h4 := far_nonneg i j
  omega
/-- The first bounds, row by row. -/
def flatUp (m : Nat) (C : Mat) (t : Nat) : List Int := (List.range t).map fun t => C (t / m) (t % m)
theorem flatUp_len (m : Nat) (C : Mat) (t : Nat) : (flatUp m C t).length = t := by unfold flatUp; simp
theorem flatUp_succ {m : Nat} (C : Mat) {i j : Nat} (hj : j < m) : flatUp m C (i * m + j + 1) = flatUp m C (i * m + j) ++ [C i j] := by
  unfold flatUp
  rw [List.range_succ, List.map_append]
  congr 1
  show [C ((i * m + j) / m) ((i * m + j) % m)] = _
  rw [Nat.mul_comm i m, Nat.mul_add_div (by omega), Nat.mul_add_mod, Nat.div_eq_of_lt hj, Nat.mod_eq_of_lt hj, Nat.add_zero]
/-- While Close goes: its three boxes. -/
structure CS (W : World) (m : Nat) (z v : Value) (wr : World) : Prop where
  zb : Duo wr W.heap.size 31 (.int .i64 ((m : Int) - 1)) z
  rb : Duo wr (W.heap.size + 1) 31 (.int .i64 0) (.slice none 0 0)
  ob : Duo wr (W.heap.size + 2) 31 (.int .i64 ((m : Int) - 1)) v
  low : Below W.heap.size W wr
section
variable {W wr W1 : World} {m n : Nat} {z v v' : Value} {xs : List Value}
theorem CS.below (h : CS W m z v wr) (hb : Below wr.heap.size wr W1) : CS W m z v W1 := ⟨h.zb.below hb, h.rb.below hb, h.ob.below hb, h.low.trans (hb.mono h.low.size)⟩
/-- A row of the call's own grew, or a new one was made. -/
theorem CS.grown {base : Nat} (h : CS W m z v wr) (hr : wr.ownsRow base 3 1 v' n xs) (hb : W.heap.size ≤ base) (hg : wr.grownBy W1 v'.ownBlock) : CS W m z v W1 :=
  ⟨h.zb.kept hg (h.zb.not_row (by decide) hr), h.rb.kept hg (h.rb.not_row (by decide) hr), h.ob.kept hg (h.ob.not_row (by decide) hr), h.low.grown hg h.low.size fun k hk => Nat.le_trans hb (hr.lt k hk).1⟩
theorem CS.put (h : CS W m z v wr) (v' : Value) : CS W m z v' (wr.setCell ⟨W.heap.size + 2, 1, none⟩ v') :=
  ⟨h.zb.other (by show W.heap.size ≠ W.heap.size + 2; omega) _, h.rb.other (by show W.heap.size + 1 ≠ W.heap.size + 2; omega) _, h.ob.set1 _, h.low.setCell (p := ⟨W.heap.size + 2, 1, none⟩) (by show W.heap.size ≤ W.heap.size + 2; omega) _⟩
theorem CS.put2 (h : CS W m z v wr) (v' : Value) : CS W m z v' ((wr.setCell ⟨W.heap.size + 2, 0, none⟩ (.int .i64 ((m : Int) - 1))).setCell ⟨W.heap.size + 2, 1, none⟩ v') :=
  ⟨(h.zb.other (by show W.heap.size ≠ W.heap.size + 2; omega) _).other (by show W.heap.size ≠ W.heap.size + 2; omega) _, (h.rb.other (by show W.heap.size + 1 ≠ W.heap.size + 2; omega) _).other (by show W.heap.size + 1 ≠ W.heap.size + 2; omega) _, (h.ob.set0 _).set1 _, (h.low.setCell (p := ⟨W.heap.size + 2, 0, none⟩) (by show W.heap.size ≤ W.heap.size + 2; omega) _).setCell (p := ⟨W.heap.size + 2, 1, none⟩) (by show W.heap.size ≤ W.heap.size + 2; omega) _⟩
theorem CS.step {w6 : World} {o : Obj} {ys : List Value} {k : Nat} (h : CS W m z v wr) (hr : wr.ownsRow W.heap.size 3 1 v n xs) (ho : w6.ownsRow W.heap.size 3 1 v' k ys) (hg : (wr.alloc o).grownBy w6 v.ownBlock) : CS W m z v w6 ∧ CS W m z v' (w6.setCell ⟨W.heap.size + 2, 1, none⟩ v') ∧ (w6.setCell ⟨W.heap.size + 2, 1, none⟩ v').ownsRow W.heap.size 3 1 v' k ys := by
  have h6 := (h.below (zboxed wr o)).grown (own_kept_below hr (zboxed wr o)) (Nat.le_refl _) hg
  exact ⟨h6, h6.put v', ho.kept (duo_grown_setCell w6 ⟨W.heap.size + 2, 1, none⟩ v') (.inr (h6.ob.not_row (by decide) ho).symm)⟩
theorem CS.cells (h : CS W m z v wr) : (wr.cell? ⟨W.heap.size, 0, none⟩ = some (.int .i64 ((m : Int) - 1)) ∧ wr.cell? ⟨W.heap.size, 1, none⟩ = some z ∧ W.heap.size < wr.heap.size) ∧ (wr.cell? ⟨W.heap.size + 2, 0, none⟩ = some (.int .i64 ((m : Int) - 1)) ∧ wr.cell? ⟨W.heap.size + 2, 1, none⟩ = some v ∧ W.heap.size + 2 < wr.heap.size) ∧ wr.frozen? ⟨W.heap.size + 2, 0, none⟩ = false ∧ wr.frozen? ⟨W.heap.size + 2, 1, none⟩ = false :=
  ⟨⟨h.zb.cell0, h.zb.cell1, h.zb.lt⟩, ⟨h.ob.cell0, h.ob.cell1, h.ob.lt⟩, h.ob.frozen0, h.ob.frozen1⟩
theorem CS.res (h : CS W m z v wr) : (wr.cell? ⟨W.heap.size + 1, 0, none⟩ = some (.int .i64 0) ∧ wr.cell? ⟨W.heap.size + 1, 1, none⟩ = some (.slice none 0 0)) ∧ wr.frozen? ⟨W.heap.size + 1, 0, none⟩ = false ∧ wr.frozen? ⟨W.heap.size + 1, 1, none⟩ = false ∧ W.heap.size + 1 < wr.heap.size := ⟨⟨h.rb.cell0, h.rb.cell1⟩, h.rb.frozen0, h.rb.frozen1, h.rb.lt⟩
end
section
variable {W : World} {N : Int} {A : Option Addr} {len cp : Nat} {f : Nat → Int}
section
variable {W : World} {m b off cp : Nat} {f : Nat → Int}
theorem one_row (W : World) (x : Int) : RowAt (W.alloc (.cells #[.int .i64 x] 3)) (.slice (some ⟨W.heap.size, 0, none⟩) 1 1) 1 [.int .i64 x] :=
  rowAt_own (World.ownsRow_lit (base := 0) (e := 3) (size := 1) W #[.int .i64 x] 1 (Nat.zero_le _) (by unfold maxLen; omega) rfl)
theorem one_int (x : Int) : ∀ u ∈ [Value.int .i64 x], u.oneCell' = true := fun u hu => by
  rw [List.mem_singleton] at hu
  subst hu
  rfl
end
end
end Go.Proofs.YtlkbapcienjdcaaDoor

/- The contracts of the document's Close and Clean, of any zone. -/
namespace Go.Proofs.YtlkbapcienjdcaaDoor
open Go.RowKit
attribute [local go_sem ↓] Go.wp_at_zero Go.wp_at_succ

section
variable {w : World} {v : Value} {N : Int} {len : Nat} {f : Nat → Int}
theorem zr_not {N : Int} {len : Nat} {f : Nat → Int} (h : mayB N = false ∨ (mayB N = true ∧ len ≠ zm N * zm N)) : zr N len f = none := by
  unfold zr
  rcases h with h | ⟨h, h2⟩
  · rw [h]; simp
  · rw [decide_eq_false h2]; simp
/-- A right zone stays, where a box is written. -/
theorem zres_put {wr : World} {b base m : Nat} {R : Option Mat} {x y z : Value} (h : Duo wr b 31 x y) (hz : ZRes wr base m R z) (u v : Value) : ZRes ((wr.setCell ⟨b, 0, none⟩ u).setCell ⟨b, 1, none⟩ v) base m R z := by
  cases R with
  | none => exact hz
  | some C =>
    obtain ⟨hc, g, cap, e, ho⟩ := hz
    exact ⟨hc, g, cap, e, row_put h ho u v⟩
end
end Go.Proofs.YtlkbapcienjdcaaDoor

/- The contracts of the document's Same (of two that are the same), Leq, Join, of right zones of one N. -/
namespace Go.Proofs.YtlkbapcienjdcaaDoor
open Go.RowKit
attribute [local go_sem ↓] Go.wp_at_zero Go.wp_at_succ

/-- The t-th bound. -/
def fl (m : Nat) (C : Mat) (t : Nat) : Int := C (t / m) (t % m)
theorem fl_at {m : Nat} (C : Mat) {t : Nat} (h : t < m * m) : (flatL m C)[t]? = some (fl m C t) := by
  unfold flatL fl
  rw [List.getElem?_map, List.getElem?_range h]
  rfl
/-- A right zone with a point, as it is read. -/
structure RP (m g c : Nat) (C : Mat) (W : World) : Prop where
  row : W.ownsRow 0 3 1 (.slice (some ⟨g, 0, none⟩) (m * m) c) (m * m) ((flatL m C).map (Value.int .i64))
section
variable {W W1 : World} {m g c base : Nat} {C D : Mat} {A : Option Addr}
theorem RP.below (h : RP m g c C W) (hb : Below W.heap.size W W1) : RP m g c C W1 := ⟨own_kept_below h.row hb⟩
theorem RP.at_ (h : RP m g c C W) {t : Nat} (ht : t < m * m) : W.cell? ⟨g, t, none⟩ = some (.int .i64 (fl m C t)) ∧ g < W.heap.size :=
  ⟨(h.row.cellAt t (by omega)).trans (by rw [List.getElem?_map, fl_at C ht]; rfl), (h.row.lt g rfl).2⟩
theorem rp_of (h : ZRes W base m (some C) (zoneV ((m : Int) - 1) A (rlen m (some C)) c)) : ∃ g, A = some ⟨g, 0, none⟩ ∧ RP m g c C W ∧ Closed m C := by
  obtain ⟨g, hA, hc, hr⟩ := zres_some h
  exact ⟨g, hA, ⟨own_lower hr (Nat.zero_le _)⟩, hc⟩
theorem rn_of (h : ZRes W base m none (zoneV ((m : Int) - 1) A (rlen m none) c)) : A = none ∧ c = 0 := by
  have h' : zoneV ((m : Int) - 1) A 0 c = zoneV ((m : Int) - 1) none 0 0 := h
  injection h' with h'
  injection h' with h'
  simp at h'
  exact h'
/-- Both boxes. -/
theorem two_boxes_r (W : World) (a a' b b' : Value) : ∃ W2, (W.alloc (.cells #[a, a'] 31)).alloc (.cells #[b, b'] 31) = W2 ∧ Duo W2 W.heap.size 31 a a' ∧ Duo W2 (W.heap.size + 1) 31 b b' ∧ Below W.heap.size W W2 ∧ W2.heap.size = W.heap.size + 2 := by
  have k1 := Duo.new (W.alloc (.cells #[a, a'] 31)) 31 b b'
  rw [World.size_alloc] at k1
  exact ⟨_, rfl, (Duo.new W _ _ _).alloc _, k1, (zboxed W _).trans ((zboxed _ _).mono (by simp)), by simp⟩
end
section
variable {w : World} {m : Nat} {R : Option Mat} {A B : Option Addr} {ba bb ca cb : Nat}
/-- Which bounds were compared, and are not above. -/
theorem leB_all {m : Nat} {C D : Mat} (h0 : 0 < m) (h : ∀ t, t < m * m → fl m C t ≤ fl m D t) : leB m C D = true := by
  rw [leB_iff]
  intro i j hi hj
  have := h (i * m + j) (spot_lt hi hj)
  unfold fl at this
  rw [Nat.mul_comm i m, Nat.mul_add_div h0, Nat.mul_add_mod, Nat.div_eq_of_lt hj, Nat.mod_eq_of_lt hj, Nat.add_zero] at this
  exact this
theorem leB_not {m t : Nat} {C D : Mat} (h0 : 0 < m) (ht : t < m * m) (h : fl m D t < fl m C t) : leB m C D = false :=
  leB_no (Nat.div_lt_of_lt_mul ht) (Nat.mod_lt _ h0) h
end
end Go.Proofs.YtlkbapcienjdcaaDoor

/- The contract of the law's same, of two that are the same (its place in RJoin, for seats without Join). -/
namespace Go.Proofs.YtlkbapcienjdcaaDoor
open Go.RowKit
attribute [local go_sem ↓] Go.wp_at_zero Go.wp_at_succ

section
variable {w : World} {m : Nat} {A B : Option Addr} {ba bb ca cb : Nat}
end
end Go.Proofs.YtlkbapcienjdcaaDoor
