/- The contract of fill: n variables' bounds, each as a function tells it, in a row of the call's own. -/
import Derived.Test.YtlddelnbjihhgaaGreatDoorCells
import Derived.Test.YtlddelnbjihhgaaGreatDoorRound
import Derived.Test.YtlddelnbjihhgaaGreatDoorZBase
import Derived.Test.YtlddelnbjihhgaaGreatDoorBlocks
import Derived.OwnWalk
import Derived.Maps.AppendAt
namespace Go.Proofs.YtlddelnbjihhgaaGreatDoor
open Go.RowKit Go.Shelf
attribute [local go_sem] Oper.semAt_some
attribute [local go_sem ↓] Go.wp_at_zero Go.wp_at_succ

theorem zinfo3 : (Tryz.prog.info? 3).map (fun i => (i.zero, i.size, i.bytes)) = some (some (.int .i64 0), 1, 8) := by kernel_rfl
theorem cells_any (x : Int) (w : World) : Calls Tryz.prog 68 #[.int .i64 x] w fun e w' => e = .returned (.func (.func 93) #[] #[.pointer (some ⟨w.heap.size, 0, none⟩)]) ∧ w' = w.alloc (.cells #[.int .i64 x] 3) :=
  (callsIn_wide (n := 3)).1 (cells_in Fence.wide 3 trivial rfl x w)

/-- What the function tells of some rows and columns. -/
def told {m : Nat} (F : Mat) (pre : List (Cell m)) : List Value := pre.map fun x => .int .i64 (F x.1.1 x.1.2)
/-- The bounds, row by row. -/
def flatL (m : Nat) (C : Mat) : List Int := (List.range (m * m)).map fun t => C (t / m) (t % m)
theorem flat_len (m : Nat) (C : Mat) : (flatL m C).length = m * m := by simp [flatL]
theorem told_all {m : Nat} (h : 0 < m) (F : Mat) : told F (spots h (m * m)) = (flatL m F).map (Value.int .i64) := by
  unfold told flatL spots
  rw [List.map_map, List.map_map]
  refine List.map_congr_left fun t ht => ?_
  have ht : t < m * m := by simpa using ht
  show Value.int .i64 (F (t / m % m) (t % m)) = .int .i64 (F (t / m) (t % m))
  rw [Nat.mod_eq_of_lt (Nat.div_lt_of_lt_mul ht)]

/-- A zone of m - 1 variables in a row of the call's own. -/
def RetFill (w : World) (m : Nat) (F : Mat) (e : Ending) (w' : World) : Prop :=
  ∃ v, e = .returned (.agg #[.int .i64 ((m : Int) - 1), v]) ∧ w'.ownsRow w.heap.size 3 1 v (m * m) ((flatL m F).map (Value.int .i64)) ∧ Below w.heap.size w w'

/-- An append within the capacity, met as one operation. -/
theorem wp_fits {P : Program} (w : World) {o : Oper} {a : Act} {K : Act → World → Prop} {Q : Exit → Act → World → Prop} (s x : Operand) (t : TypeId) (hop : o.op = Op.call { callee := Callee.builtin Builtin.append, args := #[s, x], argTypes := #[t, t] })
    (base : Nat) (e : TypeId) (i : TypeInfo) (size : Nat) (h1 : P.underlying t = some (.slice e)) (h2 : P.info? e = some i) (h4 : i.size = size)
    (g k cap : Nat) (xs : List Value) (hs : a.eval s = .slice (some ⟨g, 0, none⟩) k cap) (hown : w.ownsRow base e size (.slice (some ⟨g, 0, none⟩) k cap) k xs) (ad : Addr) (m c : Nat) (news : List Value) (hx : a.eval x = .slice (some ad) m c) (hn : news.length = m * size)
    (hc : ∀ j u, news[j]? = some u → w.cell? (ad.add j) = some u) (h1c : ∀ u ∈ news, u.oneCell' = true) (b1 : k + m ≤ cap)
    (hK : ∀ w', w'.ownsRow base e size (.slice (some ⟨g, 0, none⟩) (k + m) cap) (k + m) (xs ++ news) → w.grownBy w' (some g) → K (a.put o.dst (.slice (some ⟨g, 0, none⟩) (k + m) cap)) w') : o.wp P a w K Q := by
  obtain ⟨w', hrun, r1, r2⟩ := run_append_fits (P := P) w base t o.type e i size h1 h2 h4 g k cap xs hown ad m c news hn hc h1c b1
  unfold Oper.wp
  simp [execOp, hop, resolve, invoke, builtin, hs, hx, hrun, Result.andThen]
  exact hK _ r1 r2

/-- What the loop of fill has made of its blocks: the function's box, the result's, and the zone's, whose row grows. -/
def Filling (w : World) (m g bz fb rb : Nat) (p fv r1 r2 : Value) (k : Nat) (xs : List Value) (W : World) : Prop :=
  Duo W bz 32 p (.slice (some ⟨g, 0, none⟩) k (m * m)) ∧ W.ownsRow (w.heap.size + 1 + 1) 3 1 (.slice (some ⟨g, 0, none⟩) k (m * m)) k xs ∧ Boxed W fb 62 fv ∧ Duo W rb 32 r1 r2 ∧ Below w.heap.size w W
theorem Filling.below {w W W1 : World} {m g bz fb rb k : Nat} {p fv r1 r2 : Value} {xs : List Value} (h : Filling w m g bz fb rb p fv r1 r2 k xs W) (hb : Below W.heap.size W W1) : Filling w m g bz fb rb p fv r1 r2 k xs W1 :=
  ⟨h.1.below hb, own_kept_below h.2.1 hb, boxed_below h.2.2.1 hb, h.2.2.2.1.below hb, h.2.2.2.2.trans (hb.mono h.2.2.2.2.size)⟩
theorem filling_own (w : World) (m g bz fb rb : Nat) (p fv r1 r2 : Value) {α : Type} (f : List α → List Value) (B : Nat) (hB : w.heap.size ≤ B) : OwnFrom B (fun (pre : List α) W => Filling w m g bz fb rb p fv r1 r2 pre.length (f pre) W) := by
  intro s X Y row h hg hr
  have hr' : ∀ r, row = some r → ∃ o : Obj, X.heap[r]? = some o ∧ o.isCells = false := fun r e => (hr r e).2
  exact ⟨cells_own h.1 hg hr', row_own h.2.1 hg hr', cells_own h.2.2.1 hg hr', cells_own h.2.2.2.1 hg hr', h.2.2.2.2.grown hg h.2.2.2.2.size (fun r e => Nat.le_trans hB (hr r e).1)⟩
theorem own_lower {W : World} {base base' : Nat} {e : TypeId} {size k : Nat} {v : Value} {xs : List Value} (h : W.ownsRow base e size v k xs) (hb : base' ≤ base) : W.ownsRow base' e size v k xs := by
  refine ⟨h.1, ?_⟩
  rcases h.2 with h | ⟨g, cap, cur, h1, h2, h3⟩
  · exact .inl h
  · exact .inr ⟨g, cap, cur, h1, Nat.le_trans hb h2, h3⟩
theorem told_snoc {m : Nat} (F : Mat) (pre : List (Cell m)) (x : Cell m) : told F (pre ++ [x]) = told F pre ++ [.int .i64 (F x.1.1 x.1.2)] := by simp [told]
/-- Behind the append. -/
theorem filling_mid {w W W1 W3 : World} {m g bz fb rb k : Nat} {o : Obj} {p fv r1 r2 : Value} {xs : List Value} (n1 : g ≠ bz) (n2 : g ≠ fb)
    (h : Filling w m g bz fb rb p fv r1 r2 k xs W) (hb : Below W.heap.size W W1) (hg : (W1.alloc o).grownBy W3 (some g)) : Duo W3 bz 32 p (.slice (some ⟨g, 0, none⟩) k (m * m)) ∧ Boxed W3 fb 62 fv := by
  have h1 := h.below hb
  exact ⟨(h1.1.alloc o).kept hg (by simpa using fun e => n1 e.symm), (h1.2.2.1.alloc o).kept hg (by simpa using fun e => n2 e.symm)⟩
/-- Behind the store. -/
theorem filling_step {w W W1 W3 : World} {m g bz fb rb cb : Nat} {F : Mat} {o : Obj} {p fv r1 r2 : Value} {pre : List (Cell m)} (x : Cell m) (ne : g ≠ bz ∧ g ≠ fb ∧ g ≠ rb ∧ g ≠ cb ∧ bz ≠ fb ∧ bz ≠ rb ∧ bz ≠ cb ∧ w.heap.size ≤ g ∧ w.heap.size ≤ bz ∧ cb < W.heap.size)
    (h : Filling w m g bz fb rb p fv r1 r2 pre.length (told F pre) W) (hb : Below W.heap.size W W1) (hown' : W3.ownsRow (w.heap.size + 1 + 1) 3 1 (.slice (some ⟨g, 0, none⟩) (pre.length + 1) (m * m)) (pre.length + 1) (told F pre ++ [.int .i64 (F x.1.1 x.1.2)])) (hg : (W1.alloc o).grownBy W3 (some g)) (B : Nat) :
    KeepsFrom B W (W3.setCell ⟨bz, 1, none⟩ (.slice (some ⟨g, 0, none⟩) (pre.length + 1) (m * m))) ∧ CellKept cb W (W3.setCell ⟨bz, 1, none⟩ (.slice (some ⟨g, 0, none⟩) (pre.length + 1) (m * m))) ∧
    Filling w m g bz fb rb p fv r1 r2 (pre ++ [x]).length (told F (pre ++ [x])) (W3.setCell ⟨bz, 1, none⟩ (.slice (some ⟨g, 0, none⟩) (pre.length + 1) (m * m))) ∧ cb < (W3.setCell ⟨bz, 1, none⟩ (.slice (some ⟨g, 0, none⟩) (pre.length + 1) (m * m))).heap.size := by
  obtain ⟨n1, n2, n3, n4, n5, n6, n7, l1, l2, l3⟩ := ne
  have h1 := h.below hb
  obtain ⟨hz3, hf3⟩ := filling_mid n1 n2 h hb hg
  have hr3 : Duo W3 rb 32 r1 r2 := (h1.2.2.2.1.alloc o).kept hg (by simpa using fun e => n3 e.symm)
  have hB3 : Below w.heap.size w W3 := (h1.2.2.2.2.alloc h1.2.2.2.2.size o).grown hg (h1.2.2.2.2.alloc h1.2.2.2.2.size o).size (fun r e => by cases e; exact l1)
  have hk3 : KeepsFrom B W W3 := ((keeps_below hb B).trans ((KeepsOthers.alloc W1 o).from B)).trans (keeps_own (h1.2.1.alloc o) hg B)
  have hk4 := hk3.trans (keeps_setCell W3 ⟨bz, 1, none⟩ (.slice (some ⟨g, 0, none⟩) (pre.length + 1) (m * m)) B)
  refine ⟨hk4, ?_, ⟨?_, ?_, boxed_other hf3 (fun e => n5 e.symm) _, hr3.other (fun e => n6 e.symm) _, hB3.setCell (p := ⟨bz, 1, none⟩) l2 _⟩, Nat.lt_of_lt_of_le l3 hk4.size⟩
  · show (W3.setCell _ _).cell? ⟨cb, 0, none⟩ = W.cell? ⟨cb, 0, none⟩
    have e1 : (W3.setCell ⟨bz, 1, none⟩ (.slice (some ⟨g, 0, none⟩) (pre.length + 1) (m * m))).heap[cb]? = W3.heap[cb]? := (duo_grown_setCell W3 ⟨bz, 1, none⟩ _).block cb (by have := hb.size; have := hg.size; simp at this; omega) (by simpa using fun e => n7 e.symm)
    have e2 : W3.heap[cb]? = (W1.alloc o).heap[cb]? := hg.block cb (by have := hb.size; simp; omega) (by simpa using fun e => n4 e.symm)
    have e3 : (W1.alloc o).heap[cb]? = W1.heap[cb]? := (World.grownBy_alloc W1 o none).block cb (by have := hb.size; omega) (by simp)
    have e4 : W1.heap[cb]? = W.heap[cb]? := hb.block cb l3
    exact World.cell?_of_block (a := ⟨cb, 0, none⟩) (e1.trans (e2.trans (e3.trans e4)))
  · rw [List.length_append]; exact hz3.set1 _
  · rw [told_snoc, List.length_append]
    exact hown'.kept (duo_grown_setCell _ _ _) (.inr (by simp [Value.ownBlock]; exact n1))

set_option maxRecDepth 100000 in
set_option maxHeartbeats 4000000 in
theorem fill_any (fk : FuncId) (caps : Array Value) (m : Nat) (hm7 : m ≤ 7) (h0m : 0 < m) (F : Mat) (w : World) (eg : ∀ args W, (callFunc fk args).run Tryz.prog W = .ok (.enter fk args) W)
    (hf : ∀ i j W, i < m → j < m → Below w.heap.size w W → Calls Tryz.prog fk (#[.int .i64 (i : Int), .int .i64 (j : Int)] ++ caps) W (ZRetInt (F i j) W)) :
    Calls Tryz.prog 38 #[.int .i64 ((m : Int) - 1), .func (.func fk) #[] caps] w (RetFill w m F) := by
  have HF := Lib.hid hf
  have hmm : 0 ≤ (m : Int) * m ∧ (m : Int) * m ≤ 49 := by
    have h1 : m * m ≤ 7 * 7 := Nat.mul_le_mul hm7 hm7
    have h2 : ((m * m : Nat) : Int) = (m : Int) * m := by simp
    omega
  have hmn : ((m * m : Nat) : Int) = (m : Int) * m := by simp
  have HMN := Lib.hid hmn
  have hm1 : (m : Int) - 1 + 1 = m := by omega
  clear hf hmn
  obtain ⟨i0, hi, hi0, hi1, hi2⟩ := info_parts zinfo3
  refine (callsIn_wide (n := 3)).1 ?_
  refine callsIn_of_wp_marks Tryz.func38 rfl trivial ?_ rfl
  simp only [Tryz.ntmps38, List.size_toArray, List.length_cons, List.length_nil, Nat.reduceAdd, Nat.reduceSub, Array.replicate_succ, Array.replicate_zero, List.push_toArray, List.append_toArray, List.nil_append, List.cons_append]
  refine wpIn_wide.2 ?_
  have hN : m * m ≤ 49 := by
    have h1 : m * m ≤ 7 * 7 := Nat.mul_le_mul hm7 hm7
    omega
  have HN := Lib.hid hN
  clear hN
  go_wp2_with (first
    | (at_make; refine wpList_make_own _ rfl (.const (.int .i64 0)) (.tmp 13) 22 rfl (w.heap.size + 1 + 1) 3 i0 (.int .i64 0) 1 Tryz.underlying22 hi hi0 hi1 .i64 .i64 _ (m * m) rfl rfl HMN.out.symm (by rw [hi2]; have := HN.out; omega) (by have := HN.out; unfold maxLen; omega) (by simp <;> omega) ?_; intro w1 hown1 hgrow1)
    | (go_at_call 68; ((with_reducible refine (cells_any _ _).mono ?_); rintro e w2 ⟨rfl, rfl⟩)))
  have hs1 := hgrow1.size
  simp at hs1
  simp only [World.size_alloc] at hown1
  have hs2 : w.heap.size + 1 + 1 < w1.heap.size := (hown1.lt _ rfl).2
  have hB1 : Below w.heap.size w w1 := ((((Below.refl _ w).alloc (Nat.le_refl _) _).alloc (by simp) _)).grown hgrow1 (by simp; omega) (fun r e => by cases e)
  have hI0 : Filling w m (w.heap.size + 1 + 1) w1.heap.size w.heap.size (w.heap.size + 1) (.int .i64 ((m : Int) - 1)) (.func (.func fk) #[] caps) (.int .i64 0) (.slice none 0 0) 0 [] ((w1.alloc (.cells #[.int .i64 ((m : Int) - 1), .slice (some ⟨w.heap.size + 1 + 1, 0, none⟩) 0 (m * m)] 32)).alloc (.cells #[.int .i64 ((m : Int) - 1)] 3)) := by
    refine ⟨(Duo.new w1 _ _ _).alloc _, (hown1.alloc _).alloc _, ?_, ?_, (hB1.alloc hB1.size _).alloc (hB1.alloc hB1.size _).size _⟩
    · refine Boxed.alloc (Boxed.alloc (Boxed.kept ?_ hgrow1 (by simp)) _) _
      exact (Boxed.new w _ _).alloc _
    · refine Duo.alloc (Duo.alloc (Duo.kept ?_ hgrow1 (by simp)) _) _
      have h := Duo.new (w.alloc (.cells #[.func (.func fk) #[] caps] 62)) 32 (.int .i64 0) (.slice none 0 0)
      rw [World.size_alloc] at h
      exact h
  have hcb := Boxed.new (w1.alloc (.cells #[.int .i64 ((m : Int) - 1), .slice (some ⟨w.heap.size + 1 + 1, 0, none⟩) 0 (m * m)] 32)) 3 (.int .i64 ((m : Int) - 1))
  rw [World.size_alloc] at hcb
  have hN := HN.out
  refine (wpIn_wide (n := 3)).1 ?_
  refine wpIn_rangeFunc_ownG rfl (by omega) (gf := 93) (lb := #[.pointer (some ⟨w1.heap.size + 1, 0, none⟩)]) rfl trivial (enters_of Tryz.func93 (by kernel_rfl) rfl)
    (cells_stops Fence.wide 2 trivial rfl (by omega) (w1.heap.size + 1) m hm7 h0m _ (by simp) hcb.cell) cellKept_t (cellKept_b (by simp)) (Below.refl _ _) (fun _ => rfl)
    (fun pre W => Filling w m (w.heap.size + 1 + 1) w1.heap.size w.heap.size (w.heap.size + 1) (.int .i64 ((m : Int) - 1)) (.func (.func fk) #[] caps) (.int .i64 0) (.slice none 0 0) pre.length (told F pre) W ∧ w1.heap.size + 1 < W.heap.size)
    (fun _ _ _ => False)
    (OwnFrom.and (filling_own w m _ _ _ _ _ _ _ _ (told F) _ (by simp; omega)) (fun _ _ _ _ h hg _ => Nat.lt_of_lt_of_le h hg.size)) (fun _ _ _ _ _ h _ _ => h) ⟨hI0, by simp⟩
    (fun x => { tmps := #[.int .i64 ((m : Int) - 1), .func (.func fk) #[] caps, undef, .pointer (some ⟨w.heap.size, 0, none⟩), .pointer (some ⟨w.heap.size + 1, 0, none⟩), .pointer (some ⟨w1.heap.size, 0, none⟩), .int .i64 (x.1.1 : Int), .int .i64 (x.1.2 : Int), .int .i64 ((m : Int) - 1), .int .i64 ((m : Int) - 1), .int .i64 m, .int .i64 ((m : Int) - 1), .int .i64 m, .int .i64 ((m : Int) * m), .slice (some ⟨w.heap.size + 1 + 1, 0, none⟩) 0 (m * m), .agg #[.int .i64 ((m : Int) - 1), .slice (some ⟨w.heap.size + 1 + 1, 0, none⟩) 0 (m * m)], .int .i64 ((m : Int) - 1), .func (.func 93) #[] #[.pointer (some ⟨w1.heap.size + 1, 0, none⟩)], .int .i64 (x.1.1 : Int), .int .i64 (x.1.2 : Int), undef, undef, undef, undef, undef, undef, undef, undef, undef, undef], defers := [] }) ?assign ?body ?done ?stop
  case assign =>
    intro l x W K hK
    gi_wp2
    exact hK
  case body =>
    rintro l pre ⟨⟨i, j⟩, hi2', hj2⟩ W ⟨hFil, hcbW⟩ hlen
    dsimp only at hi2' hj2 ⊢
    have hz0 := hFil.1.cell1
    have hne : (w.heap.size + 1 + 1 ≠ w1.heap.size ∧ w.heap.size + 1 + 1 ≠ w.heap.size ∧ w.heap.size + 1 + 1 ≠ w.heap.size + 1 ∧ w.heap.size + 1 + 1 ≠ w1.heap.size + 1 ∧ w1.heap.size ≠ w.heap.size ∧ w1.heap.size ≠ w.heap.size + 1 ∧ w1.heap.size ≠ w1.heap.size + 1 ∧ w.heap.size ≤ w.heap.size + 1 + 1 ∧ w.heap.size ≤ w1.heap.size ∧ w1.heap.size + 1 < W.heap.size) := by omega
    obtain ⟨B0, hB0⟩ : ∃ B0, B0 = ((w1.alloc (.cells #[.int .i64 ((m : Int) - 1), .slice (some ⟨w.heap.size + 1 + 1, 0, none⟩) 0 (m * m)] 32)).alloc (.cells #[.int .i64 ((m : Int) - 1)] 3)).heap.size := ⟨_, rfl⟩
    gi_wp2
    refine wpIn_held (S := fun W' => W'.cell? ⟨w.heap.size, 0, none⟩ = some (.func (.func fk) #[] caps)) (by kernel_rfl) (by kernel_rfl) (by rintro ⟨_, _, h⟩; exact h) hFil.2.2.1.cell (fun hH0 => ?_)
    simp only [List.size_toArray, List.length_cons, List.length_nil, Nat.reduceAdd, Array.replicate_succ, Array.replicate_zero, List.push_toArray, List.nil_append, List.cons_append]
    refine wpAnyH_take (i := 0) (oi := ⟨some 20, _, _, _, _, _⟩) (v := ?_) rfl (by kernel_rfl) (by kernel_rfl) (by kernel_rfl) (fun _ _ _ h => h) (Or.inl ⟨by rfl, ?_⟩) hH0 ?_
    rotate_left
    · intro w hSw
      try dsimp only at hSw
      go_simp
      try with_reducible rfl
    try simp only [Act.put, List.setIfInBounds_toArray, List.set_cons_zero, List.set_cons_succ]
    refine wpAnyH_take (i := 2) (oi := ⟨some 22, _, _, _, _, _⟩) (v := ?_) rfl (by kernel_rfl) (by kernel_rfl) (by kernel_rfl) (fun _ _ _ h => h) (Or.inl ⟨by rfl, ?_⟩) hH0 ?_
    rotate_left
    · intro w hSw
      try dsimp only at hSw
      go_simp
      try with_reducible rfl
    try simp only [Act.put, List.setIfInBounds_toArray, List.set_cons_zero, List.set_cons_succ]
    refine wpAnyH_take (i := 3) (oi := ⟨some 23, _, _, _, _, _⟩) (v := ?_) rfl (by kernel_rfl) (by kernel_rfl) (by kernel_rfl) (fun _ _ _ h => h) (Or.inl ⟨by rfl, ?_⟩) hH0 ?_
    rotate_left
    · intro w hSw
      try dsimp only at hSw
      go_simp
      try with_reducible rfl
    try simp only [Act.put, List.setIfInBounds_toArray, List.set_cons_zero, List.set_cons_succ]
    refine wpAnyH_take (i := 4) (oi := ⟨some 24, _, _, _, _, _⟩) (v := ?_) rfl (by kernel_rfl) (by kernel_rfl) (by kernel_rfl) (fun _ _ _ h => h) (Or.inl ⟨by rfl, ?_⟩) hH0 ?_
    rotate_left
    · intro w hSw
      try dsimp only at hSw
      go_simp
      try with_reducible rfl
    try simp only [Act.put, List.setIfInBounds_toArray, List.set_cons_zero, List.set_cons_succ]
    refine wpAnyH_ready (rs := [1, 5]) (by kernel_rfl) (by simp) ?_
    refine (AllReadyH.cons (o := ⟨some 21, _, _, _, _, _⟩) rfl (fun K hK => ?_) (AllReadyH.cons (o := ⟨some 25, _, _, _, _, _⟩) rfl (fun K hK => ?_) AllReadyH.nil))
    · go_simp
      refine hK.out _ _ (hFil.2.2.1.cell) (fun hL1 => ?_)
      clear hK K
      try simp only [List.setIfInBounds_toArray, List.set_cons_zero, List.set_cons_succ]
      refine wpAnyH_ready (rs := [5]) (by kernel_rfl) (by simp) ?_
      refine (AllReadyH.cons (o := ⟨some 25, _, _, _, _, _⟩) rfl (fun K hK => ?_) AllReadyH.nil)
      go_simp
      refine (HF.out i j _ hi2' hj2 hFil.2.2.2.2.drew).mono ?_
      rintro e W1 ⟨rfl, hb1⟩
      have hb : Below W.heap.size W W1 := ⟨hb1.os, hb1.tape, hb1.output, hb1.size, hb1.block⟩
      have hF1 := hFil.below hb
      have hz1 := hF1.1.cell1
      have hl1 := hF1.1.lt
      go_wp2_with fail
      refine hK.out _ _ (hF1.2.2.1.cell) (fun hC => ?_)
      clear hK K
      try simp only [List.setIfInBounds_toArray, List.set_cons_zero, List.set_cons_succ]
      refine wpAnyH_ready (rs := [6]) (by kernel_rfl) (by simp) ?_
      refine (AllReadyH.cons (o := ⟨some 26, _, _, _, _, _⟩) rfl (fun K hK => ?_) AllReadyH.nil)
      go_simp
      refine hK.out _ _ ((hF1.2.2.1.alloc _).cell) (fun hA => ?_)
      clear hK K
      try simp only [List.setIfInBounds_toArray, List.set_cons_zero, List.set_cons_succ]
      refine wpAnyH_ready (rs := [7]) (by kernel_rfl) (by simp) ?_
      refine (AllReadyH.cons (o := ⟨some 27, _, _, _, _, _⟩) rfl (fun K hK => ?_) AllReadyH.nil)
      rw [if_pos (by rfl)]
      refine wp_fits _ (.tmp 21) (.tmp 26) 22 rfl (w.heap.size + 1 + 1) 3 i0 1 Tryz.underlying22 hi hi1 _ _ _ _ rfl (hF1.2.1.alloc _) ⟨W1.heap.size, 0, none⟩ 1 1 [.int .i64 (F i j)] rfl rfl (cell_one_new _ _ _) (by simp [Value.oneCell']) (by omega) ?_
      intro W3 hown3 hgrow3
      have hMid := filling_mid hne.1 hne.2.1 hFil hb hgrow3
      have hSt := filling_step (cb := w1.heap.size + 1) ⟨(i, j), hi2', hj2⟩ hne hFil hb hown3 hgrow3 B0
      have hz3 := hMid.1.cell1
      have hf3 := hMid.1.frozen1
      refine hK.out _ _ (hMid.2.cell) (fun hP => ?_)
      clear hK K
      try simp only [List.setIfInBounds_toArray, List.set_cons_zero, List.set_cons_succ]
      refine wpAnyH_take (i := 8) (oi := ⟨some 28, _, _, _, _, _⟩) (v := ?_) rfl (by kernel_rfl) (by kernel_rfl) (by kernel_rfl) (fun _ _ _ h => h) (Or.inl ⟨by rfl, ?_⟩) hP ?_
      rotate_left
      · intro w hSw
        try dsimp only at hSw
        go_simp
        try with_reducible rfl
      try simp only [Act.put, List.setIfInBounds_toArray, List.set_cons_zero, List.set_cons_succ]
      refine wpAnyH_ready (rs := [9]) (by kernel_rfl) (by simp) ?_
      refine (AllReadyH.cons (o := ⟨none, _, _, _, _, _⟩) rfl (fun K hK => ?_) AllReadyH.nil)
      go_simp
      refine hK.out _ _ (hSt.2.2.1.2.2.1.cell) (fun hE => ?_)
      clear hK K
      try simp only [List.setIfInBounds_toArray, List.set_cons_zero, List.set_cons_succ]
      refine wpAnyH_done (by kernel_rfl) ?_ _
      rw [hB0] at hSt
      exact hSt
    · go_simp
      refine (HF.out i j _ hi2' hj2 hFil.2.2.2.2.drew).mono ?_
      rintro e W1 ⟨rfl, hb1⟩
      have hb : Below W.heap.size W W1 := ⟨hb1.os, hb1.tape, hb1.output, hb1.size, hb1.block⟩
      have hF1 := hFil.below hb
      have hz1 := hF1.1.cell1
      have hl1 := hF1.1.lt
      go_wp2_with fail
      refine hK.out _ _ (hF1.2.2.1.cell) (fun hC => ?_)
      clear hK K
      try simp only [List.setIfInBounds_toArray, List.set_cons_zero, List.set_cons_succ]
      refine wpAnyH_ready (rs := [1, 6]) (by kernel_rfl) (by simp) ?_
      refine (AllReadyH.cons (o := ⟨some 21, _, _, _, _, _⟩) rfl (fun K hK => ?_) (AllReadyH.cons (o := ⟨some 26, _, _, _, _, _⟩) rfl (fun K hK => ?_) AllReadyH.nil))
      · go_simp
        refine hK.out _ _ (hF1.2.2.1.cell) (fun hL1 => ?_)
        clear hK K
        try simp only [List.setIfInBounds_toArray, List.set_cons_zero, List.set_cons_succ]
        refine wpAnyH_ready (rs := [6]) (by kernel_rfl) (by simp) ?_
        refine (AllReadyH.cons (o := ⟨some 26, _, _, _, _, _⟩) rfl (fun K hK => ?_) AllReadyH.nil)
        go_simp
        refine hK.out _ _ ((hF1.2.2.1.alloc _).cell) (fun hA => ?_)
        clear hK K
        try simp only [List.setIfInBounds_toArray, List.set_cons_zero, List.set_cons_succ]
        refine wpAnyH_ready (rs := [7]) (by kernel_rfl) (by simp) ?_
        refine (AllReadyH.cons (o := ⟨some 27, _, _, _, _, _⟩) rfl (fun K hK => ?_) AllReadyH.nil)
        rw [if_pos (by rfl)]
        refine wp_fits _ (.tmp 21) (.tmp 26) 22 rfl (w.heap.size + 1 + 1) 3 i0 1 Tryz.underlying22 hi hi1 _ _ _ _ rfl (hF1.2.1.alloc _) ⟨W1.heap.size, 0, none⟩ 1 1 [.int .i64 (F i j)] rfl rfl (cell_one_new _ _ _) (by simp [Value.oneCell']) (by omega) ?_
        intro W3 hown3 hgrow3
        have hMid := filling_mid hne.1 hne.2.1 hFil hb hgrow3
        have hSt := filling_step (cb := w1.heap.size + 1) ⟨(i, j), hi2', hj2⟩ hne hFil hb hown3 hgrow3 B0
        have hz3 := hMid.1.cell1
        have hf3 := hMid.1.frozen1
        refine hK.out _ _ (hMid.2.cell) (fun hP => ?_)
        clear hK K
        try simp only [List.setIfInBounds_toArray, List.set_cons_zero, List.set_cons_succ]
        refine wpAnyH_take (i := 8) (oi := ⟨some 28, _, _, _, _, _⟩) (v := ?_) rfl (by kernel_rfl) (by kernel_rfl) (by kernel_rfl) (fun _ _ _ h => h) (Or.inl ⟨by rfl, ?_⟩) hP ?_
        rotate_left
        · intro w hSw
          try dsimp only at hSw
          go_simp
          try with_reducible rfl
        try simp only [Act.put, List.setIfInBounds_toArray, List.set_cons_zero, List.set_cons_succ]
        refine wpAnyH_ready (rs := [9]) (by kernel_rfl) (by simp) ?_
        refine (AllReadyH.cons (o := ⟨none, _, _, _, _, _⟩) rfl (fun K hK => ?_) AllReadyH.nil)
        go_simp
        refine hK.out _ _ (hSt.2.2.1.2.2.1.cell) (fun hE => ?_)
        clear hK K
        try simp only [List.setIfInBounds_toArray, List.set_cons_zero, List.set_cons_succ]
        refine wpAnyH_done (by kernel_rfl) ?_ _
        rw [hB0] at hSt
        exact hSt
      · go_simp
        refine hK.out _ _ ((hF1.2.2.1.alloc _).cell) (fun hA => ?_)
        clear hK K
        try simp only [List.setIfInBounds_toArray, List.set_cons_zero, List.set_cons_succ]
        refine wpAnyH_ready (rs := [1]) (by kernel_rfl) (by simp) ?_
        refine (AllReadyH.cons (o := ⟨some 21, _, _, _, _, _⟩) rfl (fun K hK => ?_) AllReadyH.nil)
        go_simp
        refine hK.out _ _ ((hF1.2.2.1.alloc _).cell) (fun hL1 => ?_)
        clear hK K
        try simp only [List.setIfInBounds_toArray, List.set_cons_zero, List.set_cons_succ]
        refine wpAnyH_ready (rs := [7]) (by kernel_rfl) (by simp) ?_
        refine (AllReadyH.cons (o := ⟨some 27, _, _, _, _, _⟩) rfl (fun K hK => ?_) AllReadyH.nil)
        rw [if_pos (by rfl)]
        refine wp_fits _ (.tmp 21) (.tmp 26) 22 rfl (w.heap.size + 1 + 1) 3 i0 1 Tryz.underlying22 hi hi1 _ _ _ _ rfl (hF1.2.1.alloc _) ⟨W1.heap.size, 0, none⟩ 1 1 [.int .i64 (F i j)] rfl rfl (cell_one_new _ _ _) (by simp [Value.oneCell']) (by omega) ?_
        intro W3 hown3 hgrow3
        have hMid := filling_mid hne.1 hne.2.1 hFil hb hgrow3
        have hSt := filling_step (cb := w1.heap.size + 1) ⟨(i, j), hi2', hj2⟩ hne hFil hb hown3 hgrow3 B0
        have hz3 := hMid.1.cell1
        have hf3 := hMid.1.frozen1
        refine hK.out _ _ (hMid.2.cell) (fun hP => ?_)
        clear hK K
        try simp only [List.setIfInBounds_toArray, List.set_cons_zero, List.set_cons_succ]
        refine wpAnyH_take (i := 8) (oi := ⟨some 28, _, _, _, _, _⟩) (v := ?_) rfl (by kernel_rfl) (by kernel_rfl) (by kernel_rfl) (fun _ _ _ h => h) (Or.inl ⟨by rfl, ?_⟩) hP ?_
        rotate_left
        · intro w hSw
          try dsimp only at hSw
          go_simp
          try with_reducible rfl
        try simp only [Act.put, List.setIfInBounds_toArray, List.set_cons_zero, List.set_cons_succ]
        refine wpAnyH_ready (rs := [9]) (by kernel_rfl) (by simp) ?_
        refine (AllReadyH.cons (o := ⟨none, _, _, _, _, _⟩) rfl (fun K hK => ?_) AllReadyH.nil)
        go_simp
        refine hK.out _ _ (hSt.2.2.1.2.2.1.cell) (fun hE => ?_)
        clear hK K
        try simp only [List.setIfInBounds_toArray, List.set_cons_zero, List.set_cons_succ]
        refine wpAnyH_done (by kernel_rfl) ?_ _
        rw [hB0] at hSt
        exact hSt
  case done =>
    rintro D ys W hD rfl ⟨hFil, hcbW⟩ hK
    have c0 := hFil.1.cell0
    have c1 := hFil.1.cell1
    have d0 := hFil.2.2.2.1.cell0
    have d1 := hFil.2.2.2.1.cell1
    have f0 := hFil.2.2.2.1.frozen0
    have f1 := hFil.2.2.2.1.frozen1
    go_wp2_with fail
    have hK2 := ((KeepsOthers.setCell W ⟨w.heap.size + 1, 0, none⟩ (.int .i64 ((m : Int) - 1))).trans (KeepsOthers.setCell _ ⟨w.heap.size + 1, 1, none⟩ (.slice (some ⟨w.heap.size + 1 + 1, 0, none⟩) (spots h0m (m * m)).length (m * m)))).same D _ hK rfl
    refine ⟨by simp, .inl ⟨_, _, rfl, run_takeDeferred hK2, ?_⟩⟩
    have n1 : w.heap.size + 1 ≠ D := by simp at hD; omega
    have hR := ((hFil.2.2.2.1.set0 (.int .i64 ((m : Int) - 1))).set1 (.slice (some ⟨w.heap.size + 1 + 1, 0, none⟩) (spots h0m (m * m)).length (m * m))).kept (grownBy_putObj' _ D (.deferred none)) (by simpa using n1)
    have r0 := hR.cell0
    have r1 := hR.cell1
    refine ⟨.agg #[.int .i64 ((m : Int) - 1), .slice (some ⟨w.heap.size + 1 + 1, 0, none⟩) (spots h0m (m * m)).length (m * m)], ?_, ?_⟩
    · simp [results, Tryz.results38, go_sem, r0, r1]
    · have hB := (hFil.2.2.2.2.setCell (p := ⟨w.heap.size + 1, 0, none⟩) (by simp) (.int .i64 ((m : Int) - 1))).setCell (p := ⟨w.heap.size + 1, 1, none⟩) (by simp) (.slice (some ⟨w.heap.size + 1 + 1, 0, none⟩) (spots h0m (m * m)).length (m * m))
      have hO := (hFil.2.1.kept (duo_grown_setCell W ⟨w.heap.size + 1, 0, none⟩ (.int .i64 ((m : Int) - 1))) (.inr (by simp [Value.ownBlock]))).kept (duo_grown_setCell _ ⟨w.heap.size + 1, 1, none⟩ (.slice (some ⟨w.heap.size + 1 + 1, 0, none⟩) (spots h0m (m * m)).length (m * m))) (.inr (by simp [Value.ownBlock]))
      have hO2 := ownsRow_putObj hO (.deferred none) hK2 rfl
      have hBB := hB.trans (belowK_b (w := w) (Nat.le_refl _) _ D _ (.deferred none) (by simp at hD; omega) hK2 rfl rfl)
      rw [told_all, spots_len] at hO2
      rw [spots_len] at hBB ⊢
      exact ⟨_, rfl, own_lower hO2 (by omega), hBB⟩
  case stop =>
    rintro D c pre W _ _ h _
    exact h.elim
end Go.Proofs.YtlddelnbjihhgaaGreatDoor
