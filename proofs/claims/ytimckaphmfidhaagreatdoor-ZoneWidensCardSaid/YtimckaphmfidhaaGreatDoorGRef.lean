/- Put together of: RRow, RBase, RShrink, RClose, RClean, RSets, LSame. -/
import Derived.Test.YtimckaphmfidhaaGreatDoorGSettle
import Derived.Maps.AppendAt
import Derived.Laws.OwnMore
import Derived.Test.YtimckaphmfidhaaGreatDoorGClose
import Derived.Test.YtimckaphmfidhaaGreatDoorRWalks
import Derived.Deep.LoopGhost
import Derived.BigQuiet
import Derived.Test.YtimckaphmfidhaaGreatDoorGSets
/- (zone) The law of append where what is appended is a row that may be nil. -/
namespace Go.Proofs.YtimckaphmfidhaaGreatDoor
open Go.RowKit

/-- A row that is read: nil, or its cells lie there. -/
def RowAt (w : World) (x : Value) (m : Nat) (ys : List Value) : Prop := (x = .slice none 0 0 ∧ m = 0 ∧ ys = []) ∨ ∃ ad c, x = .slice (some ad) m c ∧ ∀ j u, ys[j]? = some u → w.cell? (ad.add j) = some u
theorem rowAt_own {w : World} {base : Nat} {e : TypeId} {size : Nat} {v : Value} {n : Nat} {xs : List Value} (h : w.ownsRow base e size v n xs) : RowAt w v n xs := by
  rcases h.2 with ⟨h1, h2⟩ | ⟨g, cap, cur, h1, -⟩
  · refine .inl ⟨h1, h2, List.eq_nil_of_length_eq_zero ?_⟩
    rw [h.1, h2, Nat.zero_mul]
  · subst h1
    exact .inr ⟨_, _, rfl, h.cells (g := g) rfl⟩
theorem run_append_rows {P : Program} (w : World) (base : Nat) (t ty e : TypeId) (i : TypeInfo) (z : Value) (size bytes : Nat) (ht : P.underlying t = some (.slice e)) (hi : P.info? e = some i) (hz : i.zero = some z)
    (hsize : i.size = size) (hby : i.bytes = bytes) (hzs : z.cells.size = size) (hsz : 0 < size)
    (v : Value) (n : Nat) (xs : List Value) (hown : w.ownsRow base e size v n xs)
    (x : Value) (m : Nat) (news : List Value) (hx : RowAt w x m news) (hl : news.length = m * size) (h1 : ∀ u ∈ news, u.oneCell' = true)
    (h63 : n + m ≤ maxLen) (hbytes : (n + m) * bytes ≤ 140737488355328) (hbase : base ≤ w.heap.size) :
    ∃ v' w', (Builtin.append_ #[t, t] ty #[v, x]).run P w = .ok v' w' ∧ w'.ownsRow base e size v' (n + m) (xs ++ news) ∧ w.grownBy w' v.ownBlock ∧ (v'.ownBlock = v.ownBlock ∨ v'.ownBlock = some w.heap.size) := by
  rcases hx with ⟨rfl, rfl, rfl⟩ | ⟨ad, c, rfl, hnews⟩
  · subst hsize
    refine ⟨v, w, ?_, by simpa using hown, ⟨rfl, rfl, rfl, Nat.le_refl _, fun _ _ _ => rfl⟩, .inl rfl⟩
    rcases hown.2 with ⟨rfl, rfl⟩ | ⟨g, cap, cur, rfl, hbg, hg, hnc, hcm, hcs, htake⟩
    · simp [Builtin.append_, run_underlying ht, sizeOf, typeInfo, hi, Builtin.lenOf, Builtin.firstCells]
    · simp [Builtin.append_, run_underlying ht, sizeOf, typeInfo, hi, Builtin.lenOf, Builtin.firstCells, loadCells, hnc, storeCells]
  · obtain ⟨v', w', k1, k2, k3, -, k5⟩ := run_append_own_at (P := P) w base t ty e i z size bytes ht hi hz hsize hby hzs hsz v n xs hown ad m c news hl hnews h1 h63 hbytes hbase
    exact ⟨v', w', k1, k2, k3, k5⟩
theorem wpList_append_rows {P : Program} {w : World} {ops : Array Oper} {rest : List Oper} {o : Oper} {a : Act} {Q : Exit → Act → World → Prop} (hgd : o.guard = none) (s x : Operand) (t : TypeId)
    (ho : o.op = .call { callee := .builtin .append, args := #[s, x], argTypes := #[t, t] })
    (base : Nat) (e : TypeId) (i : TypeInfo) (z : Value) (size bytes : Nat) (ht : P.underlying t = some (.slice e)) (hi : P.info? e = some i) (hz : i.zero = some z)
    (hsize : i.size = size) (hby : i.bytes = bytes) (hzs : z.cells.size = size) (hsz : 0 < size)
    (v : Value) (n : Nat) (xs : List Value) (hs : a.eval s = v) (hown : w.ownsRow base e size v n xs)
    (y : Value) (m : Nat) (news : List Value) (hx : a.eval x = y) (hr : RowAt w y m news) (hl : news.length = m * size) (h1 : ∀ u ∈ news, u.oneCell' = true)
    (h63 : n + m ≤ maxLen) (hbytes : (n + m) * bytes ≤ 140737488355328) (hbase : base ≤ w.heap.size)
    (h : ∀ v' w', w'.ownsRow base e size v' (n + m) (xs ++ news) → w.grownBy w' v.ownBlock → (v'.ownBlock = v.ownBlock ∨ v'.ownBlock = some w.heap.size) → wpList P ops Q rest (a.put o.dst v') w') :
    wpList P ops Q (o :: rest) a w := by
  refine wpList_plain hgd fun K hK => ?_
  obtain ⟨v', w', hrun, h2, h3, h5⟩ := run_append_rows (P := P) w base t o.type e i z size bytes ht hi hz hsize hby hzs hsz v n xs hown y m news hr hl h1 h63 hbytes hbase
  unfold Oper.wp execOp
  simp only [ho, resolve, invoke, builtin, Sem.run_bind, Sem.run_pure, Result.andThen_ok, List.map_toArray, List.map_cons, List.map_nil, hs, hx, hrun]
  exact hK _ _ (h v' w' h2 h3 h5)
end Go.Proofs.YtimckaphmfidhaaGreatDoor

/- The contracts of the document's Most and Bottom; its shrink, in numbers. -/
namespace Go.Proofs.YtimckaphmfidhaaGreatDoor
open Go.RowKit
attribute [local go_sem ↓] Go.wp_at_zero Go.wp_at_succ

theorem rmost_any (i j : Nat) (w : World) : Calls Tryz.prog 88 #[.int .i64 (i : Int), .int .i64 (j : Int)] w fun e w' => e = .returned (.int .i64 (far i j)) ∧ w = w' := by
  rcases far_cases i j with ⟨h, e⟩ | ⟨h, h2, e⟩ | ⟨h, h2, h3, e⟩
  · rw [e]
    have b1 : ((i : Int) == (j : Int)) = true := by simp; omega
    clear e h
    go_enter Tryz.func88, Tryz.ntmps88
    go_wp2_with fail
    go_ret
    exact ⟨rfl, rfl⟩
  · rw [e]
    have b1 : ((i : Int) == (j : Int)) = false := by simp; omega
    by_cases h0 : i = 0
    · subst h0
      clear e h h2
      go_enter Tryz.func88, Tryz.ntmps88
      go_wp2_with (go_at_call 122; ((with_reducible refine (rtop_any _).mono ?_); rintro e w1 ⟨rfl, rfl⟩))
      go_ret
      exact ⟨rfl, rfl⟩
    · obtain rfl : j = 0 := by omega
      have b2 : ((i : Int) == 0) = false := by simp; omega
      clear e h h2
      go_enter Tryz.func88, Tryz.ntmps88
      go_wp2_with (go_at_call 122; ((with_reducible refine (rtop_any _).mono ?_); rintro e w1 ⟨rfl, rfl⟩))
      go_ret
      exact ⟨rfl, rfl⟩
  · rw [e]
    have b1 : ((i : Int) == (j : Int)) = false := by simp; omega
    have b2 : ((i : Int) == 0) = false := by simp; omega
    have b3 : ((j : Int) == 0) = false := by simp; omega
    clear e h h2 h3
    go_enter Tryz.func88, Tryz.ntmps88
    go_wp2_with (go_at_call 122; ((with_reducible refine (rtop_any _).mono ?_); rintro e w1 ⟨rfl, rfl⟩))
    go_ret
    exact ⟨rfl, rfl⟩
theorem rbottom_any (n : Int) (w : World) : Calls Tryz.prog 12 #[.int .i64 n] w (RetBot (botN n) w) := by
  have hb := zboxed w (.cells #[.int .i64 0, .slice none 0 0] 24)
  have k := Duo.new w 24 (.int .i64 0) (.slice none 0 0)
  obtain ⟨W1, hW1⟩ : ∃ W1, w.alloc (.cells #[.int .i64 0, .slice none 0 0] 24) = W1 := ⟨_, rfl⟩
  rw [hW1] at k hb
  have c0 := k.cell0
  have c1 := k.cell1
  have c2 := k.frozen0
  have c3 := k.frozen1
  have c4 := k.lt
  have key : ∀ (x : Int), Duo ((W1.setCell ⟨w.heap.size, 0, none⟩ (.int .i64 x)).setCell ⟨w.heap.size, 1, none⟩ (.slice none 0 0)) w.heap.size 24 (.int .i64 x) (.slice none 0 0) ∧ Below w.heap.size w ((W1.setCell ⟨w.heap.size, 0, none⟩ (.int .i64 x)).setCell ⟨w.heap.size, 1, none⟩ (.slice none 0 0)) :=
    fun x => ⟨(k.set0 _).set1 _, (hb.setCell (p := ⟨w.heap.size, 0, none⟩) (Nat.le_refl _) _).setCell (p := ⟨w.heap.size, 1, none⟩) (Nat.le_refl _) _⟩
  have HK := Lib.hid key
  clear hb k key
  unfold botN
  by_cases h0 : n < 0
  · have hd : decide (n < 0) = true := decide_eq_true h0
    rw [if_neg (by rw [mayB_iff]; omega)]
    go_enter Tryz.func12, Tryz.ntmps12
    go_wp2_with fail
    have r0 := (HK.out 0).1.cell0
    have r1 := (HK.out 0).1.cell1
    exact bodyPost_ret (v := .agg #[.int .i64 0, .slice none 0 0]) (by simp [results, Tryz.results12, go_sem, r0, r1]) rfl ⟨rfl, (HK.out 0).2⟩
  · have hd : decide (n < 0) = false := decide_eq_false h0
    by_cases h6 : 6 < n
    · have hd6 : decide (6 < n) = true := decide_eq_true h6
      rw [if_neg (by rw [mayB_iff]; omega)]
      go_enter Tryz.func12, Tryz.ntmps12
      go_wp2_with fail
      have r0 := (HK.out 0).1.cell0
      have r1 := (HK.out 0).1.cell1
      exact bodyPost_ret (v := .agg #[.int .i64 0, .slice none 0 0]) (by simp [results, Tryz.results12, go_sem, r0, r1]) rfl ⟨rfl, (HK.out 0).2⟩
    · have hd6 : decide (6 < n) = false := decide_eq_false h6
      rw [if_pos ((mayB_iff n).2 (by omega))]
      go_enter Tryz.func12, Tryz.ntmps12
      go_wp2_with fail
      have r0 := (HK.out n).1.cell0
      have r1 := (HK.out n).1.cell1
      exact bodyPost_ret (v := .agg #[.int .i64 n, .slice none 0 0]) (by simp [results, Tryz.results12, go_sem, r0, r1]) rfl ⟨rfl, (HK.out n).2⟩
/-- Where a round of shrink stands: what lies before (i, j) is done, (i, j) has been compared with the first k. -/
def stg (m : Nat) (D : Mat) (i j k : Nat) : Mat := fun a b => if a < i ∨ (a = i ∧ b < j) then shr m D a b else if a = i ∧ b = j then least D a b k else D a b
theorem stg_at (m : Nat) (D : Mat) (i j k : Nat) : stg m D i j k i j = least D i j k := by
  unfold stg
  rw [if_neg (by omega), if_pos ⟨rfl, rfl⟩]
theorem stg_zero (m : Nat) (D : Mat) : stg m D 0 0 0 = D := by
  funext a b
  unfold stg
  rw [if_neg (by omega)]
  split
  · rfl
  · rfl
theorem stg_step (m : Nat) (D : Mat) (i j k : Nat) : stg m D i j (k + 1) = upd (stg m D i j k) i j (least D i j (k + 1)) := by
  funext a b
  unfold upd
  by_cases e : a = i ∧ b = j
  · obtain ⟨rfl, rfl⟩ := e
    rw [stg_at, if_pos ⟨rfl, rfl⟩]
  · rw [if_neg e]
    unfold stg
    rw [if_neg e, if_neg e]
theorem stg_same (m : Nat) (D : Mat) (i j k : Nat) (h : least D i j (k + 1) = least D i j k) : stg m D i j (k + 1) = stg m D i j k := by
  rw [stg_step, h]
  funext a b
  unfold upd
  split
  · rename_i e
    rw [e.1, e.2, stg_at]
  · rfl
theorem stg_next (m : Nat) (D : Mat) (i j : Nat) : stg m D i j m = stg m D i (j + 1) 0 := by
  funext a b
  unfold stg
  by_cases e : a < i ∨ (a = i ∧ b < j)
  · rw [if_pos e, if_pos (by omega)]
  · rw [if_neg e]
    by_cases e2 : a = i ∧ b = j
    · rw [if_pos e2, if_pos (by omega)]
      rfl
    · rw [if_neg e2, if_neg (by omega)]
      split
      · rfl
      · rfl
theorem stg_row (m : Nat) (D : Mat) (i : Nat) : Same m (stg m D i m 0) (stg m D (i + 1) 0 0) := fun a b _ hb => by
  unfold stg
  by_cases e : a < i ∨ (a = i ∧ b < m)
  · rw [if_pos e, if_pos (by omega)]
  · rw [if_neg e, if_neg (by omega), if_neg (by omega)]
    split
    · rfl
    · rfl
theorem stg_all (m : Nat) (D : Mat) : Same m (stg m D m 0 0) (shr m D) := fun a b ha _ => by
  unfold stg
  rw [if_pos (by omega)]
/-- All that was come to fits. -/
def FitUp (m : Nat) (V : Mat) (i j : Nat) : Prop := ∀ a b, a < m → b < m → (a < i ∨ (a = i ∧ b < j)) → -far a b ≤ V a b
theorem fitUp_zero (m : Nat) (V : Mat) : FitUp m V 0 0 := fun _ _ _ _ h => by omega
theorem fitUp_step {m : Nat} {V : Mat} {i j : Nat} (h : FitUp m V i j) (hx : -far i j ≤ V i j) : FitUp m V i (j + 1) := fun a b ha hb hab => by
  by_cases e : a = i ∧ b = j
  · obtain ⟨rfl, rfl⟩ := e
    exact hx
  · exact h a b ha hb (by omega)
theorem fitUp_row {m : Nat} {V : Mat} {i : Nat} (h : FitUp m V i m) : FitUp m V (i + 1) 0 := fun a b ha hb hab => h a b ha hb (by omega)
theorem fitUp_all {m : Nat} {V : Mat} (h : FitUp m V m 0) : Fits m V := fun a b ha hb => h a b ha hb (.inl ha)
theorem mul_idx {m i k : Nat} (hm : m ≤ 7) (hi : i < m) (hk : k < m) : (i : Int) * (m : Int) + (k : Int) = ((i * m + k : Nat) : Int) ∧ 0 ≤ (i : Int) * (m : Int) ∧ (i : Int) * (m : Int) ≤ 100 ∧ i * m + k < m * m := by
  have h1 := spot_lt hi hk
  have h2 : i * m ≤ 7 * 7 := Nat.mul_le_mul (by omega) hm
  refine ⟨by rw [Int.natCast_add, Int.natCast_mul], ?_, ?_, h1⟩
  · rw [← Int.natCast_mul]; omega
  · rw [← Int.natCast_mul]; omega
/-- The bounds are whole numbers' sums. -/
def InR (m : Nat) (D : Mat) : Prop := ∀ i j, i < m → j < m → -2305843009213693952 ≤ D i j ∧ D i j ≤ 2305843009213693952
theorem least_in {m : Nat} {D : Mat} (h : InR m D) {i j : Nat} (hi : i < m) (hj : j < m) : ∀ k, k ≤ m → -4611686018427387904 ≤ least D i j k ∧ least D i j k ≤ 2305843009213693952
  | 0, _ => by have := h i j hi hj; show _ ≤ D i j ∧ D i j ≤ _; omega
  | k + 1, hk => by
    have h1 := least_in h hi hj k (by omega)
    have h2 := h i k hi (by omega)
    have h3 := h k j (by omega) hj
    show _ ≤ min _ _ ∧ min _ _ ≤ _
    omega
end Go.Proofs.YtimckaphmfidhaaGreatDoor

/- The contract of the document's shrink: one round, or the bottom. -/
namespace Go.Proofs.YtimckaphmfidhaaGreatDoor
open Go.RowKit
attribute [local go_sem ↓] Go.wp_at_zero Go.wp_at_succ

theorem rdrewN_below (w : World) : ∀ q, Below w.heap.size w (w.drewN q)
  | 0 => Below.refl _ _
  | q + 1 => (rdrewN_below w q).trans (Below.refl _ _).drew

theorem row_pos {w : World} {base : Nat} {e : TypeId} {size n : Nat} {v : Value} {xs : List Value} (h : w.ownsRow base e size v n xs) (h0 : 0 < n) : ∃ g c, v = .slice (some ⟨g, 0, none⟩) n c ∧ n ≤ c := by
  rcases h.2 with ⟨_, h1⟩ | ⟨g, cap, cur, rfl, _, _, hc, _⟩
  · omega
  · exact ⟨g, cap, rfl, hc⟩
theorem ints_one (V : List Int) : ∀ u ∈ V.map (Value.int .i64), u.oneCell' = true := fun u hu => by
  obtain ⟨x, -, rfl⟩ := List.mem_map.1 hu
  rfl
/-- While shrink goes: both boxes, the zone's row, the new row. -/
structure SH (W : World) (m g cap go co : Nat) (D E : Mat) (wr : World) : Prop where
  zb : Duo wr W.heap.size 24 (.int .i64 ((m : Int) - 1)) (.slice (some ⟨g, 0, none⟩) (m * m) cap)
  rb : Duo wr (W.heap.size + 1) 24 (.int .i64 0) (.slice none 0 0)
  rowD : wr.ownsRow 0 3 1 (.slice (some ⟨g, 0, none⟩) (m * m) cap) (m * m) ((flatL m D).map (Value.int .i64))
  rowE : wr.ownsRow (W.heap.size + 2) 3 1 (.slice (some ⟨go, 0, none⟩) (m * m) co) (m * m) ((flatL m E).map (Value.int .i64))
  old : g < W.heap.size
  low : Below W.heap.size W wr
section
variable {W wr W1 : World} {m g cap go co i j : Nat} {D E E' : Mat}
theorem SH.below (h : SH W m g cap go co D E wr) (hb : Below wr.heap.size wr W1) : SH W m g cap go co D E W1 :=
  ⟨h.zb.below hb, h.rb.below hb, own_kept_below h.rowD hb, own_kept_below h.rowE hb, h.old, h.low.trans (hb.mono h.low.size)⟩
theorem SH.congr (h : SH W m g cap go co D E wr) (he : Same m E E') : SH W m g cap go co D E' wr :=
  ⟨h.zb, h.rb, h.rowD, by rw [← flat_congr he]; exact h.rowE, h.old, h.low⟩
theorem SH.set (h : SH W m g cap go co D E wr) (hj : j < m) (x : Int) : SH W m g cap go co D (upd E i j x) (wr.setCell ⟨go, i * m + j, none⟩ (.int .i64 x)) := by
  have hgo := (h.rowE.lt go rfl).1
  obtain ⟨hs, hg⟩ := h.rowE.stored (i * m + j) (.int .i64 x)
  have hne : g ≠ go := by have := h.old; omega
  refine ⟨h.zb.other (by show W.heap.size ≠ go; omega) _, h.rb.other (by show W.heap.size + 1 ≠ go; omega) _, h.rowD.kept hg (.inr (by simp [Value.ownBlock]; omega)), ?_, h.old, h.low.setCell (p := ⟨go, _, none⟩) (by show W.heap.size ≤ go; omega) _⟩
  rw [← flat_set E hj x, List.map_set]
  exact hs
theorem SH.dAt (h : SH W m g cap go co D E wr) (hi : i < m) (hj : j < m) : wr.cell? ⟨g, i * m + j, none⟩ = some (.int .i64 (D i j)) ∧ g < wr.heap.size :=
  ⟨(h.rowD.cellAt _ (by have := spot_lt hi hj; omega)).trans (by rw [List.getElem?_map, flat_at D hi hj]; rfl), (h.rowD.lt g rfl).2⟩
theorem SH.eAt (h : SH W m g cap go co D E wr) (hi : i < m) (hj : j < m) : wr.cell? ⟨go, i * m + j, none⟩ = some (.int .i64 (E i j)) ∧ wr.frozen? ⟨go, i * m + j, none⟩ = false ∧ go < wr.heap.size :=
  ⟨(h.rowE.cellAt _ (by have := spot_lt hi hj; omega)).trans (by rw [List.getElem?_map, flat_at E hi hj]; rfl), h.rowE.frozenAt _, (h.rowE.lt go rfl).2⟩
theorem SH.cells (h : SH W m g cap go co D E wr) : (wr.cell? ⟨W.heap.size, 0, none⟩ = some (.int .i64 ((m : Int) - 1)) ∧ wr.cell? ⟨W.heap.size, 1, none⟩ = some (.slice (some ⟨g, 0, none⟩) (m * m) cap)) ∧ W.heap.size < wr.heap.size := ⟨⟨h.zb.cell0, h.zb.cell1⟩, h.zb.lt⟩
theorem SH.res (h : SH W m g cap go co D E wr) : (wr.cell? ⟨W.heap.size + 1, 0, none⟩ = some (.int .i64 0) ∧ wr.cell? ⟨W.heap.size + 1, 1, none⟩ = some (.slice none 0 0)) ∧ wr.frozen? ⟨W.heap.size + 1, 0, none⟩ = false ∧ wr.frozen? ⟨W.heap.size + 1, 1, none⟩ = false ∧ W.heap.size + 1 < wr.heap.size := ⟨⟨h.rb.cell0, h.rb.cell1⟩, h.rb.frozen0, h.rb.frozen1, h.rb.lt⟩
end
/-- What shrink returns. -/
def RetShr (W : World) (m : Nat) (D : Mat) (e : Ending) (w' : World) : Prop :=
  (Fits m (shr m D) ∧ ∃ go co, e = .returned (zoneV ((m : Int) - 1) (some ⟨go, 0, none⟩) (m * m) co) ∧ w'.ownsRow W.heap.size 3 1 (.slice (some ⟨go, 0, none⟩) (m * m) co) (m * m) ((flatL m (shr m D)).map (Value.int .i64)) ∧ Below W.heap.size W w') ∨
  (¬ Fits m (shr m D) ∧ e = .returned (zoneV ((m : Int) - 1) none 0 0) ∧ Below W.heap.size W w')
/-- The result's box is written. -/
theorem res_put {W wr : World} {b : Nat} {x y : Value} (h : Duo wr b 24 x y) (hb : Below W.heap.size W wr) (hl : W.heap.size ≤ b) (u v : Value) : Duo ((wr.setCell ⟨b, 0, none⟩ u).setCell ⟨b, 1, none⟩ v) b 24 u v ∧ Below W.heap.size W ((wr.setCell ⟨b, 0, none⟩ u).setCell ⟨b, 1, none⟩ v) :=
  ⟨(h.set0 u).set1 v, (hb.setCell (p := ⟨b, 0, none⟩) hl u).setCell (p := ⟨b, 1, none⟩) hl v⟩
theorem row_put {wr : World} {b base : Nat} {x y : Value} {v0 : Value} {n : Nat} {xs : List Value} (h : Duo wr b 24 x y) (hr : wr.ownsRow base 3 1 v0 n xs) (u v : Value) : ((wr.setCell ⟨b, 0, none⟩ u).setCell ⟨b, 1, none⟩ v).ownsRow base 3 1 v0 n xs := by
  have h1 := hr.kept (duo_grown_setCell wr ⟨b, 0, none⟩ u) (.inr (h.not_row (by decide) hr).symm)
  exact h1.kept (duo_grown_setCell _ ⟨b, 1, none⟩ v) (.inr ((h.set0 u).not_row (by decide) h1).symm)
section
variable {W : World} {m g cap : Nat} {D : Mat}
set_option maxRecDepth 100000 in
set_option maxHeartbeats 6400000 in
theorem rshrink_any (h0 : 0 < m) (h7 : m ≤ 7) (hin : InR m D) (hrow : W.ownsRow 0 3 1 (.slice (some ⟨g, 0, none⟩) (m * m) cap) (m * m) ((flatL m D).map (Value.int .i64))) :
    Calls Tryz.prog 89 #[zoneV ((m : Int) - 1) (some ⟨g, 0, none⟩) (m * m) cap] W (RetShr W m D) := by
  obtain ⟨i0, hi, hz0, hz1, hz2⟩ := info_parts zinfo3
  have hmm : 0 < m * m := Nat.mul_pos h0 h0
  have hmm2 : m * m ≤ 49 := Nat.mul_le_mul h7 h7
  have hb := (zboxed W (.cells #[.int .i64 ((m : Int) - 1), .slice (some ⟨g, 0, none⟩) (m * m) cap] 24)).trans ((zboxed (W.alloc (.cells #[.int .i64 ((m : Int) - 1), .slice (some ⟨g, 0, none⟩) (m * m) cap] 24)) (.cells #[.int .i64 0, .slice none 0 0] 24)).mono (by simp))
  have k0 := (Duo.new W 24 (.int .i64 ((m : Int) - 1)) (.slice (some ⟨g, 0, none⟩) (m * m) cap)).alloc (.cells #[.int .i64 0, .slice none 0 0] 24)
  have k1 := Duo.new (W.alloc (.cells #[.int .i64 ((m : Int) - 1), .slice (some ⟨g, 0, none⟩) (m * m) cap] 24)) 24 (.int .i64 0) (.slice none 0 0)
  rw [World.size_alloc] at k1
  obtain ⟨W2, hW2⟩ : ∃ W2, (W.alloc (.cells #[.int .i64 ((m : Int) - 1), .slice (some ⟨g, 0, none⟩) (m * m) cap] 24)).alloc (.cells #[.int .i64 0, .slice none 0 0] 24) = W2 := ⟨_, rfl⟩
  have hs2 : W2.heap.size = W.heap.size + 2 := by rw [← hW2]; simp
  rw [hW2] at hb k0 k1
  have hgl : g < W.heap.size := (hrow.lt g rfl).2
  have c0 := k0.cell0
  have c1 := k0.cell1
  have c2 := k0.lt
  have HR2 := Lib.hid (own_kept_below hrow hb)
  have hlit := World.ownsRow_lit (base := W.heap.size + 2) (e := 3) (size := 1) W2 #[] 0 (by omega) (by unfold maxLen; omega) rfl
  rw [hs2] at hlit
  have HLit := Lib.hid hlit
  clear hlit
  have HB3 := Lib.hid (zboxed W2 (.cells #[] 3))
  have HK := Lib.hid (And.intro k0 (And.intro k1 (And.intro hgl hb)))
  have HLen : Hid (((flatL m D).map (Value.int .i64)).length = m * m * 1 ∧ (0 + m * m ≤ maxLen ∧ (0 + m * m) * 8 ≤ 140737488355328) ∧ W.heap.size + 2 ≤ (W2.alloc (.cells #[] 3)).heap.size) := Lib.hid (by rw [List.length_map, flat_len, World.size_alloc]; unfold maxLen; omega)
  have HIn := Lib.hid hin
  have HMm := Lib.hid hmm
  clear hrow hb k0 k1 hin hmm
  go_enter Tryz.func89, Tryz.ntmps89
  go_wp2_with (first
    | (at_builtin; refine wpList_append_rows rfl _ _ 22 rfl (W.heap.size + 2) 3 i0 (.int .i64 0) 1 8 Tryz.underlying22 hi hz0 hz1 hz2 rfl (by decide) _ _ _ rfl HLit.out _ (m * m) ((flatL m D).map (Value.int .i64)) rfl (rowAt_own (own_kept_below HR2.out HB3.out)) HLen.out.1 (ints_one _) HLen.out.2.1.1 HLen.out.2.1.2 HLen.out.2.2 ?_; intro v4 w4 ho hg hv; have HO := Lib.hid (And.intro ho (And.intro hg hv)); clear ho hg hv))
  have hg4 : (W2.alloc (.cells #[] 3)).grownBy w4 (some (W.heap.size + 2)) := HO.out.2.1
  have ho4 := HO.out.1
  rw [Nat.zero_add, List.nil_append] at ho4
  obtain ⟨go, co, rfl, hco⟩ := row_pos ho4 HMm.out
  have HS4 : Hid (SH W m g cap go co D D w4) := Lib.hid ⟨((HK.out.1.alloc _).kept hg4 (by simp)), ((HK.out.2.1.alloc _).kept hg4 (by simp)), (own_kept_below HR2.out HB3.out).kept hg4 (.inr (by simp [Value.ownBlock]; omega)), ho4, hgl, (HK.out.2.2.2.trans (HB3.out.mono (by omega))).grown hg4 (by rw [World.size_alloc]; omega) fun k hk => by injection hk with hk; omega⟩
  have hcap : m * m ≤ cap := by
    obtain ⟨g', c', e, hc⟩ := row_pos HR2.out HMm.out
    injection e with e1 e2 e3
    omega
  clear hg4 ho4 HO HK HLen HLit HB3 HR2 hW2 hs2 c0 c1 c2 hi hz0 hz1 hz2
  go_loopg [5] m (fun gk t5 wr => ∃ i : Nat, i + gk = m ∧ t5 = .int .i64 (i : Int) ∧ SH W m g cap go co D (stg m D i 0 0) wr ∧ FitUp m (shr m D) i 0)
  case atStart => exact ⟨0, by omega, rfl, by rw [stg_zero]; exact HS4.out, fitUp_zero _ _⟩
  case round =>
    rename Nat => g0
    obtain ⟨i, hi, rfl, hS, hF⟩ := hrel
    have HI := Lib.hid hi
    have HS := Lib.hid hS
    have HF := Lib.hid hF
    clear hi hS hF HS4
    by_cases him : i < m
    · go_wp2_with fail
      go_loopg [6] m (fun gk t6 wr => ∃ j : Nat, j + gk = m ∧ t6 = .int .i64 (j : Int) ∧ SH W m g cap go co D (stg m D i j 0) wr ∧ FitUp m (shr m D) i j)
      case atStart => exact ⟨0, by omega, rfl, HS.out, HF.out⟩
      case round =>
        rename Nat => g1
        obtain ⟨j, hj, rfl, hS, hF⟩ := hrel
        have HJ := Lib.hid hj
        have HS := Lib.hid hS
        have HF := Lib.hid hF
        clear hj hS hF
        by_cases hjm : j < m
        · go_wp2_with fail
          go_loopg [7] m (fun gk t7 wr => ∃ k : Nat, k + gk = m ∧ t7 = .int .i64 (k : Int) ∧ SH W m g cap go co D (stg m D i j k) wr)
          case atStart => exact ⟨0, by omega, rfl, HS.out⟩
          case round =>
            rename Nat => g2
            obtain ⟨k, hk, rfl, hS⟩ := hrel
            have HKk := Lib.hid hk
            have HS := Lib.hid hS
            clear hk hS
            obtain ⟨e1, e2, e3, e4⟩ := mul_idx h7 him hjm
            obtain ⟨c5, c6, c7⟩ := HS.out.eAt him hjm
            obtain ⟨⟨c0, c1⟩, c2⟩ := HS.out.cells
            rw [stg_at] at c5
            obtain ⟨tij, htij⟩ : ∃ t, i * m + j = t := ⟨_, rfl⟩
            rw [htij] at e1 e4 c5 c6
            have HTij := Lib.hid htij
            clear htij
            by_cases hkm : k < m
            · obtain ⟨b1, b2, b3, b4⟩ := mul_idx h7 him hkm
              obtain ⟨d1, d2, d3, d4⟩ := mul_idx h7 hkm hjm
              obtain ⟨c8, c9⟩ := HS.out.dAt him hkm
              obtain ⟨c10, -⟩ := HS.out.dAt hkm hjm
              obtain ⟨tik, htik⟩ : ∃ t, i * m + k = t := ⟨_, rfl⟩
              obtain ⟨tkj, htkj⟩ : ∃ t, k * m + j = t := ⟨_, rfl⟩
              rw [htik] at b1 b4 c8
              rw [htkj] at d1 d4 c10
              have hx := HIn.out i k him hkm
              have hy := HIn.out k j hkm hjm
              have he := least_in HIn.out him hjm k (by omega)
              have HLe : Hid (least D i j (k + 1) = min (least D i j k) (D i k + D k j)) := Lib.hid rfl
              obtain ⟨x, hxe⟩ : ∃ x, D i k = x := ⟨_, rfl⟩
              obtain ⟨y, hye⟩ : ∃ y, D k j = y := ⟨_, rfl⟩
              obtain ⟨l, hle⟩ : ∃ l, least D i j k = l := ⟨_, rfl⟩
              rw [hxe] at hx c8 HLe
              rw [hye] at hy c10 HLe
              rw [hle] at he c5 HLe
              have HLl := Lib.hid hle
              clear hxe hye hle htik htkj
              go_wp2_with fail
              go_quiet (fail)
              obtain ⟨wa, hwa⟩ : ∃ wa, wr.drewN nq = wa := ⟨_, rfl⟩
              have HSa := Lib.hid (HS.out.below (rdrewN_below wr nq))
              rw [hwa] at HSa ⊢
              clear hwa c0 c1 c2 c5 c6 c7 c8 c9 c10
              obtain ⟨c5, c6, c7⟩ := HSa.out.eAt him hjm
              rw [stg_at, HTij.out, HLl.out] at c5
              rw [HTij.out] at c6
              by_cases hlt : x + y < l
              · have hd : decide (x + y < l) = true := decide_eq_true hlt
                go_wp2_with fail
                have hk := HKk.out
                go_roundg (g2 - 1)
                case measure => omega
                case rel => exact ⟨k + 1, by omega, by simp, by
                  have h := HSa.out.set (i := i) (j := j) hjm (x + y)
                  rw [stg_step, HLe.out, show min l (x + y) = x + y by omega]
                  rw [HTij.out] at h
                  exact h⟩
              · have hd : decide (x + y < l) = false := decide_eq_false hlt
                go_wp2_with fail
                have hk := HKk.out
                go_roundg (g2 - 1)
                case measure => omega
                case rel => exact ⟨k + 1, by omega, by simp, by
                  rw [stg_same m D i j k (by rw [HLe.out, HLl.out]; omega)]
                  exact HSa.out⟩
            · have hke : k = m := by have := HKk.out; omega
              subst hke
              have HSn : Hid (SH W k g cap go co D (stg k D i (j + 1) 0) wr) := Lib.hid (by rw [← stg_next]; exact HS.out)
              have HFx : Hid (-far i j ≤ least D i j k → FitUp k (shr k D) i (j + 1)) := Lib.hid fun hx => fitUp_step HF.out hx
              have HNo : Hid (¬ -far i j ≤ least D i j k → ¬ Fits k (shr k D)) := Lib.hid fun hx hf => hx (hf i j him hjm)
              have hle2 := least_in HIn.out him hjm k (Nat.le_refl _)
              have hff := far_nonneg i j
              have HMo := Lib.hid (fun W => rmost_any i j W)
              obtain ⟨s, hs⟩ : ∃ s, least D i j k = s := ⟨_, rfl⟩
              obtain ⟨f, hf⟩ : ∃ f, far i j = f := ⟨_, rfl⟩
              have c5' := c5
              rw [hs] at HFx HNo hle2 c5
              rw [hf] at HFx HNo hff HMo
              have K1 : Hid (go < wr.drew.heap.size ∧ wr.drew.cell? ⟨go, tij, none⟩ = some (.int .i64 s)) := Lib.hid ⟨c7, by rw [← hs]; exact c5'⟩
              clear hs hf
              have e5 : (tij : Int) < ((k * k : Nat) : Int) := by omega
              have e6 : (tij : Int) < (k : Int) * (k : Int) := by rw [← Int.natCast_mul]; exact e5
              have hw1 : IntKind.i64.wrap ((i : Int) * (k : Int)) = (i : Int) * (k : Int) := IntWalk.i64_in _ (by omega)
              have hw2 : IntKind.i64.wrap ((i : Int) * (k : Int) + (j : Int)) = (tij : Int) := by rw [e1]; exact IntWalk.i64_in _ (by omega)
              have hw3 : IntKind.i64.wrap (tij : Int) = (tij : Int) := IntWalk.i64_in _ (by omega)
              have hw4 : IntKind.i64.wrap (-f) = -f := IntWalk.i64_in _ (by omega)
              by_cases hlt : s < -f
              · have hd : decide (s < -f) = true := decide_eq_true hlt
                have hd2 : decide (s < 0 - f) = true := decide_eq_true (by omega)
                go_wp2_with fail
                go_region_held3 (fun w => go < w.heap.size ∧ w.cell? ⟨go, tij, none⟩ = some (.int .i64 s))
                  (first | (exact K1.out))
                  (first
                    | (go_at_call 88; ((with_reducible refine (HMo.out _).mono ?_); rintro e w1 ⟨rfl, rfl⟩)))
                have HSd := Lib.hid (HS.out.below (Below.refl wr.heap.size wr).drew)
                obtain ⟨⟨c0, c1⟩, c2⟩ := HSd.out.cells
                have HBt : Hid (∀ W, Calls Tryz.prog 12 #[.int .i64 ((k : Int) - 1)] W (RetBot ((k : Int) - 1) W)) := Lib.hid fun W => by
                  have h := rbottom_any ((k : Int) - 1) W
                  unfold botN at h
                  rw [if_pos ((mayB_iff _).2 (by omega))] at h
                  exact h
                go_wp2_with (go_at_call 12; ((with_reducible refine (HBt.out _).mono ?_); rintro e w6 ⟨rfl, hb6⟩); have HS6 := Lib.hid (HSd.out.below hb6); clear hb6; obtain ⟨⟨r0, r1⟩, r2, r3, r4⟩ := HS6.out.res)
                have hp := res_put HS6.out.rb HS6.out.low (by omega) (.int .i64 ((k : Int) - 1)) (.slice none 0 0)
                have q0 := hp.1.cell0
                have q1 := hp.1.cell1
                exact bodyPost_ret (v := zoneV ((k : Int) - 1) none 0 0) (by simp [results, Tryz.results89, go_sem, q0, q1]) rfl (.inr ⟨HNo.out (by omega), rfl, hp.2⟩)
              · have hd : decide (s < -f) = false := decide_eq_false hlt
                have hd2 : decide (s < 0 - f) = false := decide_eq_false (by omega)
                go_wp2_with fail
                go_region_held3 (fun w => go < w.heap.size ∧ w.cell? ⟨go, tij, none⟩ = some (.int .i64 s))
                  (first | (exact K1.out))
                  (first
                    | (go_at_call 88; ((with_reducible refine (HMo.out _).mono ?_); rintro e w1 ⟨rfl, rfl⟩)))
                go_wp2_with fail
                have hj := HJ.out
                go_roundg (g1 - 1)
                case measure => omega
                case rel => exact ⟨j + 1, by omega, by simp, HSn.out.below (Below.refl _ _).drew, HFx.out (by omega)⟩
        · have hje : j = m := by have := HJ.out; omega
          subst hje
          go_wp2_with fail
          have hi := HI.out
          go_roundg (g0 - 1)
          case measure => omega
          case rel => exact ⟨i + 1, by omega, by simp, HS.out.congr (stg_row _ _ _), fitUp_row HF.out⟩
    · have hie : i = m := by have := HI.out; omega
      subst hie
      obtain ⟨⟨c0, c1⟩, c2⟩ := HS.out.cells
      obtain ⟨⟨r0, r1⟩, r2, r3, r4⟩ := HS.out.res
      go_wp2_with fail
      have hp := res_put HS.out.rb HS.out.low (by omega) (.int .i64 ((i : Int) - 1)) (.slice (some ⟨go, 0, none⟩) (i * i) co)
      have q0 := hp.1.cell0
      have q1 := hp.1.cell1
      have hr := row_put HS.out.rb HS.out.rowE (.int .i64 ((i : Int) - 1)) (.slice (some ⟨go, 0, none⟩) (i * i) co)
      rw [flat_congr (stg_all i D)] at hr
      exact bodyPost_ret (v := zoneV ((i : Int) - 1) (some ⟨go, 0, none⟩) (i * i) co) (by simp [results, Tryz.results89, go_sem, q0, q1]) rfl (.inl ⟨fitUp_all HF.out, go, co, rfl, own_lower hr (by omega), hp.2⟩)
end
end Go.Proofs.YtimckaphmfidhaaGreatDoor

/- The contract of the document's Close, and of Clean: any zone is taken as the program takes it. -/
namespace Go.Proofs.YtimckaphmfidhaaGreatDoor
open Go.RowKit
attribute [local go_sem ↓] Go.wp_at_zero Go.wp_at_succ

theorem shrN_cap {m : Nat} {A : Mat} : ∀ (r i j : Nat), shrN m A r i j ≤ cap A i j
  | 0, _, _ => Int.le_refl _
  | r + 1, i, j => Int.le_trans (shrN_mono r i j) (shrN_cap r i j)
theorem shrN_in {m : Nat} {A : Mat} {r : Nat} (h : Fits m (shrN m A r)) : InR m (shrN m A r) := fun i j hi hj => by
  have h1 := h i j hi hj
  have h2 := shrN_cap (m := m) (A := A) r i j
  have h3 := (cap_le A i j).2
  have h4 := far_nonneg i j
  omega
/-- The first bounds, row by row. -/
def flatUp (m : Nat) (C : Mat) (t : Nat) : List Int := (List.range t).map fun t => C (t / m) (t % m)
theorem flatUp_len (m : Nat) (C : Mat) (t : Nat) : (flatUp m C t).length = t := by unfold flatUp; simp
theorem flatUp_succ {m : Nat} (C : Mat) {i j : Nat} (hj : j < m) : flatUp m C (i * m + j + 1) = flatUp m C (i * m + j) ++ [C i j] := by
  unfold flatUp
  rw [List.range_succ, List.map_append]
  congr 1
  show [C ((i * m + j) / m) ((i * m + j) % m)] = _
  rw [Nat.mul_comm i m, Nat.mul_add_div (by omega), Nat.mul_add_mod, Nat.div_eq_of_lt hj, Nat.mod_eq_of_lt hj, Nat.add_zero]
/-- While Close goes: its three boxes. -/
structure CS (W : World) (m : Nat) (z v : Value) (wr : World) : Prop where
  zb : Duo wr W.heap.size 24 (.int .i64 ((m : Int) - 1)) z
  rb : Duo wr (W.heap.size + 1) 24 (.int .i64 0) (.slice none 0 0)
  ob : Duo wr (W.heap.size + 2) 24 (.int .i64 ((m : Int) - 1)) v
  low : Below W.heap.size W wr
section
variable {W wr W1 : World} {m n : Nat} {z v v' : Value} {xs : List Value}
theorem CS.below (h : CS W m z v wr) (hb : Below wr.heap.size wr W1) : CS W m z v W1 := ⟨h.zb.below hb, h.rb.below hb, h.ob.below hb, h.low.trans (hb.mono h.low.size)⟩
/-- A row of the call's own grew, or a new one was made. -/
theorem CS.grown {base : Nat} (h : CS W m z v wr) (hr : wr.ownsRow base 3 1 v' n xs) (hb : W.heap.size ≤ base) (hg : wr.grownBy W1 v'.ownBlock) : CS W m z v W1 :=
  ⟨h.zb.kept hg (h.zb.not_row (by decide) hr), h.rb.kept hg (h.rb.not_row (by decide) hr), h.ob.kept hg (h.ob.not_row (by decide) hr), h.low.grown hg h.low.size fun k hk => Nat.le_trans hb (hr.lt k hk).1⟩
theorem CS.put (h : CS W m z v wr) (v' : Value) : CS W m z v' (wr.setCell ⟨W.heap.size + 2, 1, none⟩ v') :=
  ⟨h.zb.other (by show W.heap.size ≠ W.heap.size + 2; omega) _, h.rb.other (by show W.heap.size + 1 ≠ W.heap.size + 2; omega) _, h.ob.set1 _, h.low.setCell (p := ⟨W.heap.size + 2, 1, none⟩) (by show W.heap.size ≤ W.heap.size + 2; omega) _⟩
theorem CS.put2 (h : CS W m z v wr) (v' : Value) : CS W m z v' ((wr.setCell ⟨W.heap.size + 2, 0, none⟩ (.int .i64 ((m : Int) - 1))).setCell ⟨W.heap.size + 2, 1, none⟩ v') :=
  ⟨(h.zb.other (by show W.heap.size ≠ W.heap.size + 2; omega) _).other (by show W.heap.size ≠ W.heap.size + 2; omega) _, (h.rb.other (by show W.heap.size + 1 ≠ W.heap.size + 2; omega) _).other (by show W.heap.size + 1 ≠ W.heap.size + 2; omega) _, (h.ob.set0 _).set1 _, (h.low.setCell (p := ⟨W.heap.size + 2, 0, none⟩) (by show W.heap.size ≤ W.heap.size + 2; omega) _).setCell (p := ⟨W.heap.size + 2, 1, none⟩) (by show W.heap.size ≤ W.heap.size + 2; omega) _⟩
theorem CS.step {w6 : World} {o : Obj} {ys : List Value} {k : Nat} (h : CS W m z v wr) (hr : wr.ownsRow W.heap.size 3 1 v n xs) (ho : w6.ownsRow W.heap.size 3 1 v' k ys) (hg : (wr.alloc o).grownBy w6 v.ownBlock) : CS W m z v w6 ∧ CS W m z v' (w6.setCell ⟨W.heap.size + 2, 1, none⟩ v') ∧ (w6.setCell ⟨W.heap.size + 2, 1, none⟩ v').ownsRow W.heap.size 3 1 v' k ys := by
  have h6 := (h.below (zboxed wr o)).grown (own_kept_below hr (zboxed wr o)) (Nat.le_refl _) hg
  exact ⟨h6, h6.put v', ho.kept (duo_grown_setCell w6 ⟨W.heap.size + 2, 1, none⟩ v') (.inr (h6.ob.not_row (by decide) ho).symm)⟩
theorem CS.cells (h : CS W m z v wr) : (wr.cell? ⟨W.heap.size, 0, none⟩ = some (.int .i64 ((m : Int) - 1)) ∧ wr.cell? ⟨W.heap.size, 1, none⟩ = some z ∧ W.heap.size < wr.heap.size) ∧ (wr.cell? ⟨W.heap.size + 2, 0, none⟩ = some (.int .i64 ((m : Int) - 1)) ∧ wr.cell? ⟨W.heap.size + 2, 1, none⟩ = some v ∧ W.heap.size + 2 < wr.heap.size) ∧ wr.frozen? ⟨W.heap.size + 2, 0, none⟩ = false ∧ wr.frozen? ⟨W.heap.size + 2, 1, none⟩ = false :=
  ⟨⟨h.zb.cell0, h.zb.cell1, h.zb.lt⟩, ⟨h.ob.cell0, h.ob.cell1, h.ob.lt⟩, h.ob.frozen0, h.ob.frozen1⟩
theorem CS.res (h : CS W m z v wr) : (wr.cell? ⟨W.heap.size + 1, 0, none⟩ = some (.int .i64 0) ∧ wr.cell? ⟨W.heap.size + 1, 1, none⟩ = some (.slice none 0 0)) ∧ wr.frozen? ⟨W.heap.size + 1, 0, none⟩ = false ∧ wr.frozen? ⟨W.heap.size + 1, 1, none⟩ = false ∧ W.heap.size + 1 < wr.heap.size := ⟨⟨h.rb.cell0, h.rb.cell1⟩, h.rb.frozen0, h.rb.frozen1, h.rb.lt⟩
end
section
variable {W : World} {N : Int} {A : Option Addr} {len cp : Nat} {f : Nat → Int}
set_option maxRecDepth 100000 in
/-- What may not be, or has not as many bounds as it should. -/
theorem rclose_bad (hbad : mayB N = false ∨ (mayB N = true ∧ len ≠ zm N * zm N)) : Calls Tryz.prog 35 #[zoneV N A len cp] W (RetC W (zm N) none) := by
  have hb := (zboxed W (.cells #[.int .i64 N, .slice A len cp] 24)).trans ((zboxed (W.alloc (.cells #[.int .i64 N, .slice A len cp] 24)) (.cells #[.int .i64 0, .slice none 0 0] 24)).mono (by simp))
  have k0 := (Duo.new W 24 (.int .i64 N) (.slice A len cp)).alloc (.cells #[.int .i64 0, .slice none 0 0] 24)
  have k1 := Duo.new (W.alloc (.cells #[.int .i64 N, .slice A len cp] 24)) 24 (.int .i64 0) (.slice none 0 0)
  rw [World.size_alloc] at k1
  obtain ⟨W2, hW2⟩ : ∃ W2, (W.alloc (.cells #[.int .i64 N, .slice A len cp] 24)).alloc (.cells #[.int .i64 0, .slice none 0 0] 24) = W2 := ⟨_, rfl⟩
  rw [hW2] at hb k0 k1
  have c0 := k0.cell0
  have c1 := k0.cell1
  have c2 := k0.lt
  have HBt : Hid (∀ W, Calls Tryz.prog 12 #[.int .i64 N] W (RetBot (((zm N : Nat) : Int) - 1) W)) := Lib.hid fun W => by
    have h := rbottom_any N W
    have e : botN N = ((zm N : Nat) : Int) - 1 := by
      unfold botN zm
      cases hm : mayB N
      · simp
      · have := (mayB_iff N).1 hm; simp; omega
    rw [e] at h
    exact h
  have HK := Lib.hid (And.intro k1 hb)
  obtain ⟨M, hM⟩ : ∃ M : Int, ((zm N : Nat) : Int) - 1 = M := ⟨_, rfl⟩
  have HEnd : Hid (∀ w6, Below W2.heap.size W2 w6 → ((w6.cell? ⟨W.heap.size + 1, 0, none⟩ = some (.int .i64 0) ∧ w6.cell? ⟨W.heap.size + 1, 1, none⟩ = some (.slice none 0 0)) ∧ w6.frozen? ⟨W.heap.size + 1, 0, none⟩ = false ∧ w6.frozen? ⟨W.heap.size + 1, 1, none⟩ = false ∧ W.heap.size + 1 < w6.heap.size) ∧
      Duo ((w6.setCell ⟨W.heap.size + 1, 0, none⟩ (.int .i64 M)).setCell ⟨W.heap.size + 1, 1, none⟩ (.slice none 0 0)) (W.heap.size + 1) 24 (.int .i64 M) (.slice none 0 0) ∧ RetC W (zm N) none (.returned (zoneV M none 0 0)) ((w6.setCell ⟨W.heap.size + 1, 0, none⟩ (.int .i64 M)).setCell ⟨W.heap.size + 1, 1, none⟩ (.slice none 0 0))) := Lib.hid fun w6 h6 => by
    have k := HK.out.1.below h6
    have hp := res_put k (HK.out.2.trans (h6.mono HK.out.2.size)) (by omega) (.int .i64 M) (.slice none 0 0)
    exact ⟨⟨⟨k.cell0, k.cell1⟩, k.frozen0, k.frozen1, k.lt⟩, hp.1, none, 0, by rw [hM]; rfl, rfl, hp.2⟩
  rw [hM] at HBt
  clear hb k0 k1 hM
  rcases hbad with hm | ⟨hm, hl⟩
  · have hm' : ¬ (0 ≤ N ∧ N ≤ 6) := fun h => by rw [(mayB_iff N).2 h] at hm; cases hm
    have hr2 : N < 0 ∨ (0 ≤ N ∧ 6 < N) := by omega
    clear hm hm'
    rcases hr2 with h1 | ⟨h1, h2⟩
    · have hd : decide (N < 0) = true := decide_eq_true h1
      go_enter Tryz.func35, Tryz.ntmps35
      go_wp2_with (go_at_call 12; ((with_reducible refine (HBt.out _).mono ?_); rintro e w6 ⟨rfl, hb6⟩); obtain ⟨⟨⟨r0, r1⟩, r2, r3, r4⟩, r5, r6⟩ := HEnd.out w6 hb6; have r7 := r5.cell0; have r8 := r5.cell1; have HR6 := Lib.hid r6; clear r5 r6 hb6)
      exact bodyPost_ret (v := zoneV M none 0 0) (by simp [results, Tryz.results35, go_sem, r7, r8]) rfl HR6.out
    · have hd : decide (N < 0) = false := decide_eq_false (by omega)
      have hd2 : decide (6 < N) = true := decide_eq_true h2
      go_enter Tryz.func35, Tryz.ntmps35
      go_wp2_with (go_at_call 12; ((with_reducible refine (HBt.out _).mono ?_); rintro e w6 ⟨rfl, hb6⟩); obtain ⟨⟨⟨r0, r1⟩, r2, r3, r4⟩, r5, r6⟩ := HEnd.out w6 hb6; have r7 := r5.cell0; have r8 := r5.cell1; have HR6 := Lib.hid r6; clear r5 r6 hb6)
      exact bodyPost_ret (v := zoneV M none 0 0) (by simp [results, Tryz.results35, go_sem, r7, r8]) rfl HR6.out
  · have hN := (mayB_iff N).1 hm
    obtain ⟨h1, h2⟩ := hN
    have hz : ((zm N : Nat) : Int) = N + 1 := by have := zm_may hm; omega
    have h7 := (zm_bd N).2
    have hq0 : (N + 1) * (N + 1) = ((zm N * zm N : Nat) : Int) := by rw [Int.natCast_mul, hz]
    have hq1 : ((len : Nat) : Int) ≠ (N + 1) * (N + 1) := by rw [hq0]; omega
    have hq : (((len : Nat) : Int) == (N + 1) * (N + 1)) = false := by simpa using hq1
    have hq2 : 0 ≤ (N + 1) * (N + 1) ∧ (N + 1) * (N + 1) ≤ 49 := by
      rw [hq0]
      have : zm N * zm N ≤ 7 * 7 := Nat.mul_le_mul h7 h7
      omega
    have hw0 : IntKind.i64.wrap (N + 1) = N + 1 := IntWalk.i64_in _ (by omega)
    have hw1 : IntKind.i64.wrap ((N + 1) * (N + 1)) = (N + 1) * (N + 1) := IntWalk.i64_in _ (by omega)
    have hd : decide (N < 0) = false := decide_eq_false (by omega)
    have hd2 : decide (6 < N) = false := decide_eq_false (by omega)
    clear hm hl hz hq0
    go_enter Tryz.func35, Tryz.ntmps35
    go_wp2_with (go_at_call 12; ((with_reducible refine (HBt.out _).mono ?_); rintro e w6 ⟨rfl, hb6⟩); obtain ⟨⟨⟨r0, r1⟩, r2, r3, r4⟩, r5, r6⟩ := HEnd.out w6 hb6; have r7 := r5.cell0; have r8 := r5.cell1; have HR6 := Lib.hid r6; clear r5 r6 hb6)
    exact bodyPost_ret (v := zoneV M none 0 0) (by simp [results, Tryz.results35, go_sem, r7, r8]) rfl HR6.out
end
section
variable {W : World} {m b off cp : Nat} {f : Nat → Int}
theorem one_row (W : World) (x : Int) : RowAt (W.alloc (.cells #[.int .i64 x] 3)) (.slice (some ⟨W.heap.size, 0, none⟩) 1 1) 1 [.int .i64 x] :=
  rowAt_own (World.ownsRow_lit (base := 0) (e := 3) (size := 1) W #[.int .i64 x] 1 (Nat.zero_le _) (by unfold maxLen; omega) rfl)
theorem one_int (x : Int) : ∀ u ∈ [Value.int .i64 x], u.oneCell' = true := fun u hu => by
  rw [List.mem_singleton] at hu
  subst hu
  rfl
set_option maxRecDepth 100000 in
set_option maxHeartbeats 6400000 in
theorem rclose_good (h0 : 0 < m) (h7 : m ≤ 7) (hbk : b < W.heap.size) (hcell : ∀ t, t < m * m → W.cell? ⟨b, off + t, none⟩ = some (.int .i64 (f t))) (hcp : m * m ≤ cp) {R : Option Mat} (hR1 : Alive m (nearM m f) → R = some (lev (nearM m f) m)) (hR2 : ¬ Alive m (nearM m f) → R = none) :
    Calls Tryz.prog 35 #[zoneV ((m : Int) - 1) (some ⟨b, off, none⟩) (m * m) cp] W (RetC W m R) := by
  obtain ⟨i0, hi, hz0, hz1, hz2⟩ := info_parts zinfo3
  have HI0 := Lib.hid (And.intro hi (And.intro hz0 (And.intro hz1 hz2)))
  have hmm : 0 < m * m := Nat.mul_pos h0 h0
  have hmm2 : m * m ≤ 49 := Nat.mul_le_mul h7 h7
  obtain ⟨A, hA⟩ : ∃ A, nearM m f = A := ⟨_, rfl⟩
  rw [hA] at hR1 hR2
  have HA : Hid (∀ i j, i < m → j < m → cap A i j = min (nearZ (f (i * m + j))) (far i j)) := Lib.hid fun i j _ _ => by rw [← hA]; rfl
  have HR := Lib.hid (And.intro hR1 hR2)
  have k0 := ((Duo.new W 24 (.int .i64 ((m : Int) - 1)) (.slice (some ⟨b, off, none⟩) (m * m) cp)).alloc (.cells #[.int .i64 0, .slice none 0 0] 24)).alloc (.cells #[.int .i64 ((m : Int) - 1), .slice none 0 0] 24)
  have k1 := (Duo.new (W.alloc (.cells #[.int .i64 ((m : Int) - 1), .slice (some ⟨b, off, none⟩) (m * m) cp] 24)) 24 (.int .i64 0) (.slice none 0 0)).alloc (.cells #[.int .i64 ((m : Int) - 1), .slice none 0 0] 24)
  have k2 := Duo.new ((W.alloc (.cells #[.int .i64 ((m : Int) - 1), .slice (some ⟨b, off, none⟩) (m * m) cp] 24)).alloc (.cells #[.int .i64 0, .slice none 0 0] 24)) 24 (.int .i64 ((m : Int) - 1)) (.slice none 0 0)
  have hb2 := (zboxed W (.cells #[.int .i64 ((m : Int) - 1), .slice (some ⟨b, off, none⟩) (m * m) cp] 24)).trans ((zboxed (W.alloc (.cells #[.int .i64 ((m : Int) - 1), .slice (some ⟨b, off, none⟩) (m * m) cp] 24)) (.cells #[.int .i64 0, .slice none 0 0] 24)).mono (by simp))
  have hb3 := hb2.trans ((zboxed ((W.alloc (.cells #[.int .i64 ((m : Int) - 1), .slice (some ⟨b, off, none⟩) (m * m) cp] 24)).alloc (.cells #[.int .i64 0, .slice none 0 0] 24)) (.cells #[.int .i64 ((m : Int) - 1), .slice none 0 0] 24)).mono (by simp; omega))
  simp only [World.size_alloc] at k1 k2
  obtain ⟨W2, hW2⟩ : ∃ W2, (W.alloc (.cells #[.int .i64 ((m : Int) - 1), .slice (some ⟨b, off, none⟩) (m * m) cp] 24)).alloc (.cells #[.int .i64 0, .slice none 0 0] 24) = W2 := ⟨_, rfl⟩
  have hs2 : W2.heap.size = W.heap.size + 2 := by rw [← hW2]; simp
  rw [hW2] at k0 k1 k2 hb2 hb3
  have c0 : W2.cell? ⟨W.heap.size, 0, none⟩ = some (.int .i64 ((m : Int) - 1)) := by
    rw [← hW2]
    exact ((Duo.new W 24 (.int .i64 ((m : Int) - 1)) (.slice (some ⟨b, off, none⟩) (m * m) cp)).alloc (.cells #[.int .i64 0, .slice none 0 0] 24)).cell0
  have c1 : W2.cell? ⟨W.heap.size, 1, none⟩ = some (.slice (some ⟨b, off, none⟩) (m * m) cp) := by
    rw [← hW2]
    exact ((Duo.new W 24 (.int .i64 ((m : Int) - 1)) (.slice (some ⟨b, off, none⟩) (m * m) cp)).alloc (.cells #[.int .i64 0, .slice none 0 0] 24)).cell1
  have c2 : W.heap.size < W2.heap.size := by omega
  have HS0 : Hid (CS W m (.slice (some ⟨b, off, none⟩) (m * m) cp) (.slice none 0 0) (W2.alloc (.cells #[.int .i64 ((m : Int) - 1), .slice none 0 0] 24))) := Lib.hid ⟨k0, k1, k2, hb3⟩
  have HCell : Hid (∀ W1, Below W.heap.size W W1 → ∀ t, t < m * m → W1.cell? ⟨b, off + t, none⟩ = some (.int .i64 (f t)) ∧ b < W1.heap.size) := Lib.hid fun W1 h1 t ht => ⟨(h1.cell (p := ⟨b, off + t, none⟩) hbk).trans (hcell t ht), Nat.lt_of_lt_of_le hbk h1.size⟩
  have HBt : Hid (∀ W, Calls Tryz.prog 12 #[.int .i64 ((m : Int) - 1)] W (RetBot ((m : Int) - 1) W)) := Lib.hid fun W => by
    have h := rbottom_any ((m : Int) - 1) W
    unfold botN at h
    rw [if_pos ((mayB_iff _).2 (by omega))] at h
    exact h
  have hd : decide ((m : Int) - 1 < 0) = false := decide_eq_false (by omega)
  have hd2 : decide (6 < (m : Int) - 1) = false := decide_eq_false (by omega)
  have hq0 : ((m * m : Nat) : Int) = (m : Int) * (m : Int) := Int.natCast_mul m m
  have hq1 : 0 ≤ (m : Int) * (m : Int) ∧ (m : Int) * (m : Int) ≤ 49 := by rw [← hq0]; omega
  have hw1 : IntKind.i64.wrap ((m : Int) * (m : Int)) = (m : Int) * (m : Int) := IntWalk.i64_in _ (by omega)
  have hq : (((m * m : Nat) : Int) == (m : Int) * (m : Int)) = true := by rw [hq0]; simp
  clear hA hR1 hR2 k0 k1 k2 hb2 hb3 hcell hbk hi hz0 hz1 hz2 hmm
  go_enter Tryz.func35, Tryz.ntmps35
  go_wp2_with fail
  obtain ⟨W3, hW3⟩ : ∃ W3, W2.alloc (.cells #[.int .i64 ((m : Int) - 1), .slice none 0 0] 24) = W3 := ⟨_, rfl⟩
  rw [hW3] at HS0 ⊢
  clear hW3 hW2 hs2 c0 c1 c2
  go_loopg [5] m (fun gk t5 wr => ∃ (i : Nat) (v : Value), i + gk = m ∧ t5 = .int .i64 (i : Int) ∧ CS W m (.slice (some ⟨b, off, none⟩) (m * m) cp) v wr ∧ wr.ownsRow W.heap.size 3 1 v (i * m + 0) ((flatUp m (Go.Proofs.YtimckaphmfidhaaGreatDoor.cap A) (i * m + 0)).map (Value.int .i64)) ∧ FitUp m (Go.Proofs.YtimckaphmfidhaaGreatDoor.cap A) i 0)
  case atStart => exact ⟨0, _, by omega, rfl, HS0.out, by simp only [Nat.zero_mul]; exact World.ownsRow_nil _ _ _ _, fitUp_zero _ _⟩
  case round =>
    rename Nat => g0
    obtain ⟨i, v, hi, rfl, hS, hV, hF⟩ := hrel
    have HI := Lib.hid hi
    have HS := Lib.hid hS
    have HV := Lib.hid hV
    have HF := Lib.hid hF
    clear hi hS hV hF HS0
    by_cases him : i < m
    · go_wp2_with fail
      go_loopg [6] m (fun gk t6 wr => ∃ (j : Nat) (v : Value), j + gk = m ∧ t6 = .int .i64 (j : Int) ∧ CS W m (.slice (some ⟨b, off, none⟩) (m * m) cp) v wr ∧ wr.ownsRow W.heap.size 3 1 v (i * m + j) ((flatUp m (Go.Proofs.YtimckaphmfidhaaGreatDoor.cap A) (i * m + j)).map (Value.int .i64)) ∧ FitUp m (Go.Proofs.YtimckaphmfidhaaGreatDoor.cap A) i j)
      case atStart => exact ⟨0, _, by omega, rfl, HS.out, HV.out, HF.out⟩
      case round =>
        rename Nat => g1
        clear HS HV HF
        obtain ⟨j, v, hj, rfl, hS, hV, hF⟩ := hrel
        have HJ := Lib.hid hj
        have HS := Lib.hid hS
        have HF := Lib.hid hF
        clear hj hS hF
        by_cases hjm : j < m
        · obtain ⟨e1, e2, e3, e4⟩ := mul_idx h7 him hjm
          have hC := HA.out i j him hjm
          have HUp : Hid (flatUp m (Go.Proofs.YtimckaphmfidhaaGreatDoor.cap A) (i * m + j + 1) = flatUp m (Go.Proofs.YtimckaphmfidhaaGreatDoor.cap A) (i * m + j) ++ [Go.Proofs.YtimckaphmfidhaaGreatDoor.cap A i j]) := Lib.hid (flatUp_succ _ hjm)
          have hff := far_nonneg i j
          have hpb := nearZ_bd (f (i * m + j))
          have HMo := Lib.hid (fun W => rmost_any i j W)
          have HNr := Lib.hid (fun W => rnear_any (f (i * m + j)) W)
          have hcf := HCell.out _ HS.out.low _ e4
          have HFx : Hid (-far i j ≤ Go.Proofs.YtimckaphmfidhaaGreatDoor.cap A i j → FitUp m (Go.Proofs.YtimckaphmfidhaaGreatDoor.cap A) i (j + 1)) := Lib.hid fun hx => fitUp_step HF.out hx
          have HNo : Hid (Go.Proofs.YtimckaphmfidhaaGreatDoor.cap A i j < -far i j → ¬ Alive m A) := Lib.hid fun hx => not_alive_cap him hjm hx
          obtain ⟨F, hFe⟩ : ∃ F, far i j = F := ⟨_, rfl⟩
          obtain ⟨x, hx⟩ : ∃ x, f (i * m + j) = x := ⟨_, rfl⟩
          obtain ⟨p, hp⟩ : ∃ p, nearZ x = p := ⟨_, rfl⟩
          obtain ⟨n, hn⟩ : ∃ n, Go.Proofs.YtimckaphmfidhaaGreatDoor.cap A i j = n := ⟨_, rfl⟩
          rw [hx, hp, hn, hFe] at hC
          rw [hFe] at hff HMo HFx HNo
          rw [hx, hp] at hpb HNr
          rw [hn] at HUp HFx HNo
          rw [hx] at hcf
          obtain ⟨t, ht⟩ : ∃ t, i * m + j = t := ⟨_, rfl⟩
          rw [ht] at e1 e4 hcf HUp hV
          have HT := Lib.hid ht
          have HV := Lib.hid hV
          obtain ⟨⟨c0, c1, c2⟩, ⟨c3, c4, c5⟩, c6, c7⟩ := HS.out.cells
          obtain ⟨c8, c9⟩ := hcf
          have e5 : (t : Int) < ((m * m : Nat) : Int) := by omega
          have e6 : (t : Int) < (m : Int) * (m : Int) := by rw [← Int.natCast_mul]; exact e5
          have hw2 : IntKind.i64.wrap ((i : Int) * (m : Int)) = (i : Int) * (m : Int) := IntWalk.i64_in _ (by omega)
          have hw3 : IntKind.i64.wrap ((i : Int) * (m : Int) + (j : Int)) = (t : Int) := by rw [e1]; exact IntWalk.i64_in _ (by omega)
          have hw4 : IntKind.i64.wrap (-F) = -F := IntWalk.i64_in _ (by omega)
          have HBd : Hid (t + 1 ≤ maxLen ∧ (t + 1) * 8 ≤ 140737488355328 ∧ W.heap.size ≤ (wr.alloc (.cells #[.int .i64 n] 3)).heap.size) := Lib.hid (by rw [World.size_alloc]; have := HS.out.low.size; unfold maxLen; omega)
          obtain ⟨hi, hz0, hz1, hz2⟩ := HI0.out
          clear hFe hx hp hn ht hV
          by_cases hlt : F < p
          · have hd3 : decide (F < p) = true := decide_eq_true hlt
            obtain rfl : n = F := by omega
            have hd4 : decide (n < -n) = false := decide_eq_false (by omega)
            clear hC
            go_wp2_with (first
              | (go_at_call 87; ((with_reducible refine (HNr.out _).mono ?_); rintro e w1 ⟨rfl, rfl⟩))
              | (go_at_call 88; ((with_reducible refine (HMo.out _).mono ?_); rintro e w1 ⟨rfl, rfl⟩))
              | (at_builtin; refine wpList_append_rows rfl _ _ 22 rfl W.heap.size 3 i0 (.int .i64 0) 1 8 Tryz.underlying22 hi hz0 hz1 hz2 rfl (by decide) _ _ _ rfl (own_kept_below HV.out (zboxed _ _)) _ 1 [.int .i64 n] rfl (one_row _ _) rfl (one_int _) HBd.out.1 HBd.out.2.1 HBd.out.2.2 ?_; intro v6 w6 ho hg hv; obtain ⟨gr, cr, hv6, -⟩ := row_pos ho (Nat.succ_pos _); subst hv6; have H6 := Lib.hid (HS.out.step HV.out ho hg); obtain ⟨⟨q0, q1, q2⟩, ⟨q3, q4, q5⟩, q6, q7⟩ := H6.out.1.cells; clear ho hg hv))
            have H7 := Lib.hid H6.out.2
            have hj := HJ.out
            go_roundg (g1 - 1)
            case measure => omega
            case rel => exact ⟨j + 1, _, by omega, by simp, H7.out.1, by rw [← Nat.add_assoc, HT.out, HUp.out, List.map_append]; exact H7.out.2, HFx.out (by omega)⟩
          · have hd3 : decide (F < p) = false := decide_eq_false hlt
            obtain rfl : n = p := by omega
            clear hC
            by_cases hlow : n < -F
            · have hd4 : decide (n < -F) = true := decide_eq_true hlow
              go_wp2_with (first
                | (go_at_call 87; ((with_reducible refine (HNr.out _).mono ?_); rintro e w1 ⟨rfl, rfl⟩))
                | (go_at_call 88; ((with_reducible refine (HMo.out _).mono ?_); rintro e w1 ⟨rfl, rfl⟩))
                | (at_builtin; refine wpList_append_rows rfl _ _ 22 rfl W.heap.size 3 i0 (.int .i64 0) 1 8 Tryz.underlying22 hi hz0 hz1 hz2 rfl (by decide) _ _ _ rfl (own_kept_below HV.out (zboxed _ _)) _ 1 [.int .i64 n] rfl (one_row _ _) rfl (one_int _) HBd.out.1 HBd.out.2.1 HBd.out.2.2 ?_; intro v6 w6 ho hg hv; obtain ⟨gr, cr, hv6, -⟩ := row_pos ho (Nat.succ_pos _); subst hv6; have H6 := Lib.hid (HS.out.step HV.out ho hg); obtain ⟨⟨q0, q1, q2⟩, ⟨q3, q4, q5⟩, q6, q7⟩ := H6.out.1.cells; obtain ⟨⟨u0, u1, u2⟩, ⟨u3, u4, u5⟩, u6, u7⟩ := H6.out.2.1.cells; clear ho hg hv)
                | (go_at_call 12; ((with_reducible refine (HBt.out _).mono ?_); rintro e w8 ⟨rfl, hb8⟩); have H8 := Lib.hid (H6.out.2.1.below hb8); clear hb8; obtain ⟨⟨r0, r1⟩, r2, r3, r4⟩ := H8.out.res))
              obtain rfl : R = none := HR.out.2 (HNo.out hlow)
              have hp := res_put H8.out.rb H8.out.low (by omega) (.int .i64 ((m : Int) - 1)) (.slice none 0 0)
              have y0 := hp.1.cell0
              have y1 := hp.1.cell1
              exact bodyPost_ret (v := zoneV ((m : Int) - 1) none 0 0) (by simp [results, Tryz.results35, go_sem, y0, y1]) rfl ⟨none, 0, rfl, rfl, hp.2⟩
            · have hd4 : decide (n < -F) = false := decide_eq_false hlow
              go_wp2_with (first
                | (go_at_call 87; ((with_reducible refine (HNr.out _).mono ?_); rintro e w1 ⟨rfl, rfl⟩))
                | (go_at_call 88; ((with_reducible refine (HMo.out _).mono ?_); rintro e w1 ⟨rfl, rfl⟩))
                | (at_builtin; refine wpList_append_rows rfl _ _ 22 rfl W.heap.size 3 i0 (.int .i64 0) 1 8 Tryz.underlying22 hi hz0 hz1 hz2 rfl (by decide) _ _ _ rfl (own_kept_below HV.out (zboxed _ _)) _ 1 [.int .i64 n] rfl (one_row _ _) rfl (one_int _) HBd.out.1 HBd.out.2.1 HBd.out.2.2 ?_; intro v6 w6 ho hg hv; obtain ⟨gr, cr, hv6, -⟩ := row_pos ho (Nat.succ_pos _); subst hv6; have H6 := Lib.hid (HS.out.step HV.out ho hg); obtain ⟨⟨q0, q1, q2⟩, ⟨q3, q4, q5⟩, q6, q7⟩ := H6.out.1.cells; clear ho hg hv))
              have H7 := Lib.hid H6.out.2
              have hj := HJ.out
              go_roundg (g1 - 1)
              case measure => omega
              case rel => exact ⟨j + 1, _, by omega, by simp, H7.out.1, by rw [← Nat.add_assoc, HT.out, HUp.out, List.map_append]; exact H7.out.2, HFx.out (by omega)⟩
        · have hje : j = m := by have := HJ.out; omega
          subst hje
          go_wp2_with fail
          have hi := HI.out
          go_roundg (g0 - 1)
          case measure => omega
          case rel => exact ⟨i + 1, v, by omega, by simp, HS.out, by rw [show (i + 1) * j + 0 = i * j + j by rw [Nat.add_mul]; omega]; exact hV, fitUp_row HF.out⟩
    · have hie : i = m := by have := HI.out; omega
      subst hie
      have hii : 0 < i * i := Nat.mul_pos h0 h0
      have hV0 : wr.ownsRow W.heap.size 3 1 v (i * i) ((flatL i (shrN i A 0)).map (Value.int .i64)) := HV.out
      obtain ⟨go, co, rfl, hco⟩ := row_pos hV0 hii
      have HV0 := Lib.hid hV0
      have HF0 : Hid (∀ q, q ≤ 0 → Fits i (shrN i A q)) := Lib.hid fun q hq => by
        obtain rfl : q = 0 := by omega
        exact fitUp_all HF.out
      have hlen : decide ((0 : Int) < ((i * i : Nat) : Int)) = true := decide_eq_true (by omega)
      have hlen2 : decide (0 < i * i) = true := decide_eq_true hii
      have hlen3 : (0 : Int) < (i : Int) * (i : Int) := by rw [← Int.natCast_mul]; omega
      clear hV0 hco
      go_wp2_with fail
      go_loopg [8] 8 (fun gk t8 wr => ∃ (r : Nat) (v : Value), r + gk = 8 ∧ t8 = .int .i64 (r : Int) ∧ CS W i (.slice (some ⟨b, off, none⟩) (i * i) cp) v wr ∧ ((∃ go co, v = .slice (some ⟨go, 0, none⟩) (i * i) co ∧ wr.ownsRow W.heap.size 3 1 (.slice (some ⟨go, 0, none⟩) (i * i) co) (i * i) ((flatL i (shrN i A r)).map (Value.int .i64)) ∧ ∀ q, q ≤ r → Fits i (shrN i A q)) ∨ (v = .slice none 0 0 ∧ ¬ Alive i A)))
      case atStart => exact ⟨0, _, by omega, rfl, HS.out, .inl ⟨go, co, rfl, HV0.out, HF0.out⟩⟩
      case round =>
        rename Nat => g1
        clear HS HV HV0 HF HF0
        obtain ⟨r, v, hr, rfl, hS, hst⟩ := hrel
        have HRr := Lib.hid hr
        have HS := Lib.hid hS
        clear hr hS
        obtain ⟨⟨c0, c1, c2⟩, ⟨c3, c4, c5⟩, c6, c7⟩ := HS.out.cells
        obtain ⟨⟨r0, r1⟩, r2, r3, r4⟩ := HS.out.res
        rcases hst with ⟨go, co, rfl, hrow, hfit⟩ | ⟨rfl, hno⟩
        · have HRow := Lib.hid hrow
          have HFit := Lib.hid hfit
          clear hrow hfit
          by_cases hr8 : r < 8
          · have HShr := Lib.hid (rshrink_any h0 h7 (shrN_in (HFit.out r (Nat.le_refl _))) (own_lower HRow.out (Nat.zero_le _)))
            go_wp2_with (first
              | (go_at_call 89; ((with_reducible refine HShr.out.mono ?_); rintro e w6 hsh); have HSh := Lib.hid hsh; clear hsh; rcases HSh.out with ⟨hfit, go', co', rfl, hrow', hb'⟩ | ⟨hno, rfl, hb'⟩; all_goals (have H6 := Lib.hid (HS.out.below hb'); obtain ⟨⟨q0, q1, q2⟩, ⟨q3, q4, q5⟩, q6, q7⟩ := H6.out.cells)))
            · have hr := HRr.out
              go_roundg (g1 - 1)
              case measure => omega
              case rel => exact ⟨r + 1, _, by omega, by simp, H6.out.put2 _, .inl ⟨go', co', rfl, row_put H6.out.ob (own_lower hrow' HS.out.low.size) _ _, fun q hq => by
                by_cases e : q = r + 1
                · subst e; exact hfit
                · exact HFit.out q (by omega)⟩⟩
            · have hr := HRr.out
              go_roundg (g1 - 1)
              case measure => omega
              case rel => exact ⟨r + 1, _, by omega, by simp, H6.out.put2 _, .inr ⟨rfl, fun ha => hno (shrN_fits ha (r + 1))⟩⟩
          · have hr := HRr.out
            have ha : Alive i A := alive_of_fits fun q hq => HFit.out q (by omega)
            obtain rfl : R = some (lev A i) := HR.out.1 ha
            have HAl := Lib.hid ha
            clear ha
            go_wp2_with fail
            have hp := res_put HS.out.rb HS.out.low (by omega) (.int .i64 ((i : Int) - 1)) (.slice (some ⟨go, 0, none⟩) (i * i) co)
            have y0 := hp.1.cell0
            have y1 := hp.1.cell1
            have hrw := row_put HS.out.rb HRow.out (.int .i64 ((i : Int) - 1)) (.slice (some ⟨go, 0, none⟩) (i * i) co)
            rw [flat_congr (shrN_lev HAl.out r (by omega))] at hrw
            exact bodyPost_ret (v := zoneV ((i : Int) - 1) (some ⟨go, 0, none⟩) (i * i) co) (by simp [results, Tryz.results35, go_sem, y0, y1]) rfl ⟨some ⟨go, 0, none⟩, co, rfl, ⟨lev_closed HAl.out, go, co, rfl, hrw⟩, hp.2⟩
        · obtain rfl : R = none := HR.out.2 hno
          have hp := res_put HS.out.rb HS.out.low (by omega) (.int .i64 ((i : Int) - 1)) (.slice none 0 0)
          have y0 := hp.1.cell0
          have y1 := hp.1.cell1
          have HP := Lib.hid hp.2
          clear hno hp
          by_cases hr8 : r < 8
          · go_wp2_with fail
            exact bodyPost_ret (v := zoneV ((i : Int) - 1) none 0 0) (by simp [results, Tryz.results35, go_sem, y0, y1]) rfl ⟨none, 0, rfl, rfl, HP.out⟩
          · go_wp2_with fail
            exact bodyPost_ret (v := zoneV ((i : Int) - 1) none 0 0) (by simp [results, Tryz.results35, go_sem, y0, y1]) rfl ⟨none, 0, rfl, rfl, HP.out⟩
end
end Go.Proofs.YtimckaphmfidhaaGreatDoor

/- The contracts of the document's Close and Clean, of any zone. -/
namespace Go.Proofs.YtimckaphmfidhaaGreatDoor
open Go.RowKit
attribute [local go_sem ↓] Go.wp_at_zero Go.wp_at_succ

section
variable {w : World} {v : Value} {N : Int} {len : Nat} {f : Nat → Int}
theorem zr_not {N : Int} {len : Nat} {f : Nat → Int} (h : mayB N = false ∨ (mayB N = true ∧ len ≠ zm N * zm N)) : zr N len f = none := by
  unfold zr
  rcases h with h | ⟨h, h2⟩
  · rw [h]; simp
  · rw [decide_eq_false h2]; simp
theorem rclose_z (h : ZArg w v N len f) : Calls Tryz.prog 35 #[v] w (RetC w (zm N) (zr N len f)) := by
  obtain ⟨A, cp, rfl, hlc, h100, hc⟩ := h
  by_cases hbad : mayB N = false ∨ (mayB N = true ∧ len ≠ zm N * zm N)
  · rw [zr_not hbad]
    exact rclose_bad hbad
  · have hm : mayB N = true := by
      cases e : mayB N
      · exact absurd (.inl e) hbad
      · rfl
    have hl : len = zm N * zm N := Classical.byContradiction fun e => hbad (.inr ⟨hm, e⟩)
    have hz := zm_may hm
    have hbd := zm_bd N
    subst hl
    obtain ⟨b, off, rfl, hbk, hcell⟩ := hc (Nat.mul_pos hbd.1 hbd.1)
    have key : ∀ (M : Int), ((zm N : Nat) : Int) - 1 = M → Calls Tryz.prog 35 #[zoneV M (some ⟨b, off, none⟩) (zm N * zm N) cp] w (RetC w (zm N) (zr N (zm N * zm N) f)) := fun M hM => by
      subst hM
      refine rclose_good hbd.1 hbd.2 hbk hcell hlc (fun ha => ?_) fun ha => ?_
      · unfold zr
        rw [hm, (aliveB_iff _ _).2 ha]
        simp
      · have e : aliveB (zm N) (nearM (zm N) f) = false := by
          cases e : aliveB (zm N) (nearM (zm N) f)
          · rfl
          · exact absurd ((aliveB_iff _ _).1 e) ha
        unfold zr
        rw [e]
        simp
    exact key N hz
/-- A right zone stays, where a box is written. -/
theorem zres_put {wr : World} {b base m : Nat} {R : Option Mat} {x y z : Value} (h : Duo wr b 24 x y) (hz : ZRes wr base m R z) (u v : Value) : ZRes ((wr.setCell ⟨b, 0, none⟩ u).setCell ⟨b, 1, none⟩ v) base m R z := by
  cases R with
  | none => exact hz
  | some C =>
    obtain ⟨hc, g, cap, e, ho⟩ := hz
    exact ⟨hc, g, cap, e, row_put h ho u v⟩
theorem rclean_z (h : ZArg w v N len f) : Calls Tryz.prog 8 #[v] w (RetC w (zm N) (zr N len f)) := by
  have hz := h
  obtain ⟨A, cp, rfl, hlc, h100, hc⟩ := h
  have hb := (zboxed w (.cells #[.int .i64 N, .slice A len cp] 24)).trans ((zboxed (w.alloc (.cells #[.int .i64 N, .slice A len cp] 24)) (.cells #[.int .i64 0, .slice none 0 0] 24)).mono (by simp))
  have k0 := (Duo.new w 24 (.int .i64 N) (.slice A len cp)).alloc (.cells #[.int .i64 0, .slice none 0 0] 24)
  have k1 := Duo.new (w.alloc (.cells #[.int .i64 N, .slice A len cp] 24)) 24 (.int .i64 0) (.slice none 0 0)
  rw [World.size_alloc] at k1
  obtain ⟨W2, hW2⟩ : ∃ W2, (w.alloc (.cells #[.int .i64 N, .slice A len cp] 24)).alloc (.cells #[.int .i64 0, .slice none 0 0] 24) = W2 := ⟨_, rfl⟩
  rw [hW2] at hb k0 k1
  have c0 := k0.cell0
  have c1 := k0.cell1
  have c2 := k0.lt
  have HCl := Lib.hid (rclose_z (hz.below hb))
  have HB := Lib.hid hb
  have HK := Lib.hid k1
  by_cases h0 : len = 0
  · subst h0
    have hno : zr N 0 f = none := by
      cases e : mayB N
      · exact zr_not (.inl e)
      · refine zr_not (.inr ⟨e, fun e2 => ?_⟩)
        have := Nat.mul_pos (zm_bd N).1 (zm_bd N).1
        omega
    rw [hno]
    have HBt : Hid (∀ W, Calls Tryz.prog 12 #[.int .i64 N] W (RetBot (((zm N : Nat) : Int) - 1) W)) := Lib.hid fun W => by
      have h := rbottom_any N W
      have e : botN N = ((zm N : Nat) : Int) - 1 := by
        unfold botN zm
        cases hm : mayB N
        · simp
        · have := (mayB_iff N).1 hm; simp; omega
      rw [e] at h
      exact h
    obtain ⟨M, hM⟩ : ∃ M : Int, ((zm N : Nat) : Int) - 1 = M := ⟨_, rfl⟩
    rw [hM] at HBt
    have HMM := Lib.hid hM
    clear hM hz hc hb k0 k1 hno
    go_enter Tryz.func8, Tryz.ntmps8
    go_wp2_with (go_at_call 12; ((with_reducible refine (HBt.out _).mono ?_); rintro e w6 ⟨rfl, hb6⟩); have H6 := Lib.hid (HK.out.below hb6); have HB6 := Lib.hid (HB.out.trans (hb6.mono HB.out.size)); have r0 := H6.out.cell0; have r1 := H6.out.cell1; have r2 := H6.out.frozen0; have r3 := H6.out.frozen1; have r4 := H6.out.lt; clear hb6)
    have hp := res_put H6.out HB6.out (by omega) (.int .i64 M) (.slice none 0 0)
    have y0 := hp.1.cell0
    have y1 := hp.1.cell1
    exact bodyPost_ret (v := zoneV M none 0 0) (by simp [results, Tryz.results8, go_sem, y0, y1]) rfl ⟨none, 0, by rw [HMM.out]; rfl, rfl, hp.2⟩
  · have hd : ((len : Int) == 0) = false := by simpa using h0
    obtain ⟨M, hM⟩ : ∃ M : Int, ((zm N : Nat) : Int) - 1 = M := ⟨_, rfl⟩
    have HMM := Lib.hid hM
    clear hM hz hc hb k0 k1
    go_enter Tryz.func8, Tryz.ntmps8
    go_wp2_with (go_at_call 35; ((with_reducible refine HCl.out.mono ?_); rintro e w6 ⟨A6, c6, rfl, hz6, hb6⟩); have H6 := Lib.hid (HK.out.below hb6); have HB6 := Lib.hid (HB.out.trans (hb6.mono HB.out.size)); have HZ6 := Lib.hid hz6; have r0 := H6.out.cell0; have r1 := H6.out.cell1; have r2 := H6.out.frozen0; have r3 := H6.out.frozen1; have r4 := H6.out.lt; clear hb6 hz6)
    have hp := res_put H6.out HB6.out (by omega) (.int .i64 (((zm N : Nat) : Int) - 1)) (.slice A6 (rlen (zm N) (zr N len f)) c6)
    have y0 := hp.1.cell0
    have y1 := hp.1.cell1
    have hzz := zres_put H6.out (HZ6.out.lower HB.out.size) (.int .i64 (((zm N : Nat) : Int) - 1)) (.slice A6 (rlen (zm N) (zr N len f)) c6)
    exact bodyPost_ret (v := zoneV (((zm N : Nat) : Int) - 1) A6 (rlen (zm N) (zr N len f)) c6) (by simp [results, Tryz.results8, go_sem, y0, y1]) rfl ⟨A6, c6, rfl, hzz, hp.2⟩
end
end Go.Proofs.YtimckaphmfidhaaGreatDoor

/- The contracts of the document's Same (of two that are the same), Leq, Join, of right zones of one N. -/
namespace Go.Proofs.YtimckaphmfidhaaGreatDoor
open Go.RowKit
attribute [local go_sem ↓] Go.wp_at_zero Go.wp_at_succ

/-- The t-th bound. -/
def fl (m : Nat) (C : Mat) (t : Nat) : Int := C (t / m) (t % m)
theorem fl_at {m : Nat} (C : Mat) {t : Nat} (h : t < m * m) : (flatL m C)[t]? = some (fl m C t) := by
  unfold flatL fl
  rw [List.getElem?_map, List.getElem?_range h]
  rfl
/-- A right zone with a point, as it is read. -/
structure RP (m g c : Nat) (C : Mat) (W : World) : Prop where
  row : W.ownsRow 0 3 1 (.slice (some ⟨g, 0, none⟩) (m * m) c) (m * m) ((flatL m C).map (Value.int .i64))
section
variable {W W1 : World} {m g c base : Nat} {C D : Mat} {A : Option Addr}
theorem RP.below (h : RP m g c C W) (hb : Below W.heap.size W W1) : RP m g c C W1 := ⟨own_kept_below h.row hb⟩
theorem RP.at_ (h : RP m g c C W) {t : Nat} (ht : t < m * m) : W.cell? ⟨g, t, none⟩ = some (.int .i64 (fl m C t)) ∧ g < W.heap.size :=
  ⟨(h.row.cellAt t (by omega)).trans (by rw [List.getElem?_map, fl_at C ht]; rfl), (h.row.lt g rfl).2⟩
theorem rp_of (h : ZRes W base m (some C) (zoneV ((m : Int) - 1) A (rlen m (some C)) c)) : ∃ g, A = some ⟨g, 0, none⟩ ∧ RP m g c C W ∧ Closed m C := by
  obtain ⟨g, hA, hc, hr⟩ := zres_some h
  exact ⟨g, hA, ⟨own_lower hr (Nat.zero_le _)⟩, hc⟩
theorem rn_of (h : ZRes W base m none (zoneV ((m : Int) - 1) A (rlen m none) c)) : A = none ∧ c = 0 := by
  have h' : zoneV ((m : Int) - 1) A 0 c = zoneV ((m : Int) - 1) none 0 0 := h
  injection h' with h'
  injection h' with h'
  simp at h'
  exact h'
/-- Both boxes. -/
theorem two_boxes_r (W : World) (a a' b b' : Value) : ∃ W2, (W.alloc (.cells #[a, a'] 24)).alloc (.cells #[b, b'] 24) = W2 ∧ Duo W2 W.heap.size 24 a a' ∧ Duo W2 (W.heap.size + 1) 24 b b' ∧ Below W.heap.size W W2 ∧ W2.heap.size = W.heap.size + 2 := by
  have k1 := Duo.new (W.alloc (.cells #[a, a'] 24)) 24 b b'
  rw [World.size_alloc] at k1
  exact ⟨_, rfl, (Duo.new W _ _ _).alloc _, k1, (zboxed W _).trans ((zboxed _ _).mono (by simp)), by simp⟩
end
section
variable {w : World} {m : Nat} {R : Option Mat} {A B : Option Addr} {ba bb ca cb : Nat}
set_option maxRecDepth 100000 in
set_option maxHeartbeats 3200000 in
theorem rsame_true (h7 : m ≤ 7) (ha : ZRes w ba m R (zoneV ((m : Int) - 1) A (rlen m R) ca)) (hb : ZRes w bb m R (zoneV ((m : Int) - 1) B (rlen m R) cb)) :
    Calls Tryz.prog 44 #[zoneV ((m : Int) - 1) A (rlen m R) ca, zoneV ((m : Int) - 1) B (rlen m R) cb] w (ZRetBool true w) := by
  obtain ⟨W2, hW2, k0, k1, hb2, hs2⟩ := two_boxes_r w (.int .i64 ((m : Int) - 1)) (.slice A (rlen m R) ca) (.int .i64 ((m : Int) - 1)) (.slice B (rlen m R) cb)
  have c0 := k0.cell0
  have c1 := k0.cell1
  have c2 := k0.lt
  have c3 := k1.cell0
  have c4 := k1.cell1
  have c5 := k1.lt
  have HB := Lib.hid hb2
  have HK := Lib.hid (And.intro k0 k1)
  cases R with
  | none =>
    have e0 : rlen m (none : Option Mat) = 0 := rfl
    rw [e0] at hW2 c1 c4
    clear ha hb k0 k1 hb2
    go_enter Tryz.func44, Tryz.ntmps44
    go_wp2_with fail
    go_loopg [5] 0 (fun gk t5 wr => t5 = .int .i64 0 ∧ wr = W2)
    case atStart => exact ⟨rfl, rfl⟩
    case round =>
      obtain ⟨rfl, rfl⟩ := hrel
      go_wp2_with fail
      go_ret
      exact ⟨rfl, HB.out⟩
  | some C =>
    obtain ⟨g1, rfl, p1, -⟩ := rp_of ha
    obtain ⟨g2, rfl, p2, -⟩ := rp_of hb
    have hmm2 : m * m ≤ 49 := Nat.mul_le_mul h7 h7
    have e0 : rlen m (some C) = m * m := rfl
    rw [e0] at hW2 c1 c4 HK
    have HP := Lib.hid (And.intro (p1.below hb2) (p2.below hb2))
    clear ha hb k0 k1 p1 p2 hb2
    go_enter Tryz.func44, Tryz.ntmps44
    go_wp2_with fail
    go_loopg [5] (m * m) (fun gk t5 wr => ∃ t : Nat, t + gk = m * m ∧ t5 = .int .i64 (t : Int) ∧ Below W2.heap.size W2 wr)
    case atStart => exact ⟨0, by omega, rfl, Below.refl _ _⟩
    case round =>
      rename Nat => g0
      obtain ⟨t, ht, rfl, hbw⟩ := hrel
      have HT := Lib.hid ht
      have HBw := Lib.hid hbw
      have HKw := Lib.hid (And.intro (HK.out.1.below hbw) (HK.out.2.below hbw))
      clear ht hbw c0 c1 c2 c3 c4 c5
      have c0 := HKw.out.1.cell0
      have c1 := HKw.out.1.cell1
      have c2 := HKw.out.1.lt
      have c4 := HKw.out.2.cell1
      have c5 := HKw.out.2.lt
      by_cases htm : t < m * m
      · obtain ⟨d1, d2⟩ := (HP.out.1.below HBw.out).at_ htm
        obtain ⟨d3, d4⟩ := (HP.out.2.below HBw.out).at_ htm
        have hti : (t : Int) < ((m * m : Nat) : Int) := by omega
        obtain ⟨x, hx⟩ : ∃ x, fl m C t = x := ⟨_, rfl⟩
        rw [hx] at d1 d3
        clear hx
        go_wp2_with fail
        go_quiet (fail)
        go_wp2_with fail
        have ht := HT.out
        go_roundg (g0 - 1)
        case measure => omega
        case rel => exact ⟨t + 1, by omega, by simp, HBw.out.trans ((rdrewN_below _ _).mono HBw.out.size)⟩
      · have hte : t = m * m := by have := HT.out; omega
        subst hte
        go_wp2_with fail
        go_ret
        exact ⟨rfl, HB.out.trans (HBw.out.mono HB.out.size)⟩
/-- Which bounds were compared, and are not above. -/
theorem leB_all {m : Nat} {C D : Mat} (h0 : 0 < m) (h : ∀ t, t < m * m → fl m C t ≤ fl m D t) : leB m C D = true := by
  rw [leB_iff]
  intro i j hi hj
  have := h (i * m + j) (spot_lt hi hj)
  unfold fl at this
  rw [Nat.mul_comm i m, Nat.mul_add_div h0, Nat.mul_add_mod, Nat.div_eq_of_lt hj, Nat.mod_eq_of_lt hj, Nat.add_zero] at this
  exact this
theorem leB_not {m t : Nat} {C D : Mat} (h0 : 0 < m) (ht : t < m * m) (h : fl m D t < fl m C t) : leB m C D = false :=
  leB_no (Nat.div_lt_of_lt_mul ht) (Nat.mod_lt _ h0) h
set_option maxRecDepth 100000 in
set_option maxHeartbeats 3200000 in
theorem rleq_any {Ra Rb : Option Mat} (h0 : 0 < m) (h7 : m ≤ 7) (ha : ZRes w ba m Ra (zoneV ((m : Int) - 1) A (rlen m Ra) ca)) (hb : ZRes w bb m Rb (zoneV ((m : Int) - 1) B (rlen m Rb) cb)) :
    Calls Tryz.prog 45 #[zoneV ((m : Int) - 1) A (rlen m Ra) ca, zoneV ((m : Int) - 1) B (rlen m Rb) cb] w (ZRetBool (leqO m m Ra Rb) w) := by
  obtain ⟨W2, hW2, k0, k1, hb2, hs2⟩ := two_boxes_r w (.int .i64 ((m : Int) - 1)) (.slice A (rlen m Ra) ca) (.int .i64 ((m : Int) - 1)) (.slice B (rlen m Rb) cb)
  have c0 := k0.cell0
  have c1 := k0.cell1
  have c2 := k0.lt
  have c3 := k1.cell0
  have c4 := k1.cell1
  have c5 := k1.lt
  have HB := Lib.hid hb2
  have HK := Lib.hid (And.intro k0 k1)
  have hmm2 : m * m ≤ 49 := Nat.mul_le_mul h7 h7
  have hmm : 0 < m * m := Nat.mul_pos h0 h0
  cases Ra with
  | none =>
    have e0 : rlen m (none : Option Mat) = 0 := rfl
    rw [e0] at hW2 c1
    rw [show leqO m m none Rb = true from decide_eq_true rfl]
    clear ha hb k0 k1 hb2
    go_enter Tryz.func45, Tryz.ntmps45
    go_wp2_with fail
    go_ret
    exact ⟨rfl, HB.out⟩
  | some C =>
    obtain ⟨g1, rfl, p1, -⟩ := rp_of ha
    have e0 : rlen m (some C) = m * m := rfl
    rw [e0] at hW2 c1 HK
    have q0 : (((m * m : Nat) : Int) == 0) = false := by simp; omega
    have q1 : decide (m * m = 0) = false := decide_eq_false (by omega)
    have q3 : ((m : Int) * (m : Int) == 0) = false := by rw [← Int.natCast_mul]; exact q0
    have q4 : decide ((m : Int) * (m : Int) = 0) = false := by rw [← Int.natCast_mul]; exact decide_eq_false (by omega)
    cases Rb with
    | none =>
      obtain ⟨rfl, rfl⟩ := rn_of hb
      have e1 : rlen m (none : Option Mat) = 0 := rfl
      rw [e1] at hW2 c4 HK
      rw [show leqO m m (some C) none = false from rfl]
      have q2 : (0 : Int) < ((m * m : Nat) : Int) := by omega
      clear ha hb k0 k1 hb2 p1
      go_enter Tryz.func45, Tryz.ntmps45
      go_wp2_with fail
      go_loopg [5] 0 (fun gk t5 wr => t5 = .int .i64 0 ∧ wr = W2)
      case atStart => exact ⟨rfl, rfl⟩
      case round =>
        obtain ⟨rfl, rfl⟩ := hrel
        go_wp2_with fail
        go_quiet (fail)
        go_wp2_with fail
        go_ret
        exact ⟨rfl, HB.out.trans ((rdrewN_below _ _).mono HB.out.size)⟩
    | some D =>
      obtain ⟨g2, rfl, p2, -⟩ := rp_of hb
      have e1 : rlen m (some D) = m * m := rfl
      rw [e1] at hW2 c4 HK
      rw [show leqO m m (some C) (some D) = leB m C D by show (decide (m = m) && _) = _; simp]
      have HP := Lib.hid (And.intro (p1.below hb2) (p2.below hb2))
      clear ha hb k0 k1 p1 p2 hb2
      go_enter Tryz.func45, Tryz.ntmps45
      go_wp2_with fail
      go_loopg [5] (m * m) (fun gk t5 wr => ∃ t : Nat, t + gk = m * m ∧ t5 = .int .i64 (t : Int) ∧ Below W2.heap.size W2 wr ∧ ∀ q, q < t → fl m C q ≤ fl m D q)
      case atStart => exact ⟨0, by omega, rfl, Below.refl _ _, fun q hq => absurd hq (Nat.not_lt_zero _)⟩
      case round =>
        rename Nat => g0
        obtain ⟨t, ht, rfl, hbw, hall⟩ := hrel
        have HT := Lib.hid ht
        have HBw := Lib.hid hbw
        have HAll := Lib.hid hall
        have HKw := Lib.hid (And.intro (HK.out.1.below hbw) (HK.out.2.below hbw))
        clear ht hbw hall c0 c1 c2 c3 c4 c5
        have c1 := HKw.out.1.cell1
        have c2 := HKw.out.1.lt
        have c4 := HKw.out.2.cell1
        have c5 := HKw.out.2.lt
        by_cases htm : t < m * m
        · obtain ⟨d1, d2⟩ := (HP.out.1.below HBw.out).at_ htm
          obtain ⟨d3, d4⟩ := (HP.out.2.below HBw.out).at_ htm
          have hti : (t : Int) < ((m * m : Nat) : Int) := by omega
          have HNo : Hid (fl m D t < fl m C t → leB m C D = false) := Lib.hid (leB_not h0 htm)
          have HYes : Hid (fl m C t ≤ fl m D t → ∀ q, q < t + 1 → fl m C q ≤ fl m D q) := Lib.hid fun hx q hq => by
            by_cases e : q = t
            · subst e; exact hx
            · exact HAll.out q (by omega)
          obtain ⟨x, hx⟩ : ∃ x, fl m C t = x := ⟨_, rfl⟩
          obtain ⟨y, hy⟩ : ∃ y, fl m D t = y := ⟨_, rfl⟩
          rw [hx] at d1 HNo HYes
          rw [hy] at d3 HNo HYes
          clear hx hy
          by_cases hxy : y < x
          · have hd : decide (y < x) = true := decide_eq_true hxy
            go_wp2_with fail
            go_quiet (fail)
            go_wp2_with fail
            go_ret
            exact ⟨by rw [HNo.out hxy]; rfl, HB.out.trans ((HBw.out.trans ((rdrewN_below _ _).mono HBw.out.size)).mono HB.out.size)⟩
          · have hd : decide (y < x) = false := decide_eq_false hxy
            go_wp2_with fail
            go_quiet (fail)
            go_wp2_with fail
            have ht := HT.out
            go_roundg (g0 - 1)
            case measure => omega
            case rel => exact ⟨t + 1, by omega, by simp, HBw.out.trans ((rdrewN_below _ _).mono HBw.out.size), HYes.out (by omega)⟩
        · have hte : t = m * m := by have := HT.out; omega
          subst hte
          go_wp2_with fail
          go_ret
          exact ⟨by rw [leB_all h0 HAll.out]; rfl, HB.out.trans (HBw.out.mono HB.out.size)⟩
end
end Go.Proofs.YtimckaphmfidhaaGreatDoor

/- The contract of the law's same, of two that are the same (its place in RJoin, for seats without Join). -/
namespace Go.Proofs.YtimckaphmfidhaaGreatDoor
open Go.RowKit
attribute [local go_sem ↓] Go.wp_at_zero Go.wp_at_succ

section
variable {w : World} {m : Nat} {A B : Option Addr} {ba bb ca cb : Nat}
set_option maxRecDepth 100000 in
set_option maxHeartbeats 1600000 in
/-- The law's same, of two that are the same. -/
theorem lsame_any {R : Option Mat} (h7 : m ≤ 7) (ha : ZRes w ba m R (zoneV ((m : Int) - 1) A (rlen m R) ca)) (hb : ZRes w bb m R (zoneV ((m : Int) - 1) B (rlen m R) cb)) :
    Calls Tryz.prog 11 #[zoneV ((m : Int) - 1) A (rlen m R) ca, zoneV ((m : Int) - 1) B (rlen m R) cb] w (RetB w true) := by
  have b1 := zboxed w (.cells #[.int .i64 ((m : Int) - 1), .slice A (rlen m R) ca] 28)
  have b2 := b1.trans ((zboxed (w.alloc (.cells #[.int .i64 ((m : Int) - 1), .slice A (rlen m R) ca] 28)) (.cells #[.int .i64 ((m : Int) - 1), .slice B (rlen m R) cb] 24)).mono b1.size)
  have HB := Lib.hid b2
  have HS := Lib.hid (rsame_true h7 (ha.below b2) (hb.below b2))
  clear ha hb b1 b2
  obtain ⟨l, hl⟩ : ∃ l, rlen m R = l := ⟨_, rfl⟩
  rw [hl] at HB HS ⊢
  clear hl
  go_enter Tryz.func11, Tryz.ntmps11
  go_wp2_with (go_at_call 44; ((with_reducible refine HS.out.mono ?_); rintro e w6 ⟨rfl, hb6⟩); have HB6 := Lib.hid (HB.out.trans (hb6.mono HB.out.size)); clear hb6)
  go_ret
  exact ⟨rfl, HB6.out⟩
end
end Go.Proofs.YtimckaphmfidhaaGreatDoor
