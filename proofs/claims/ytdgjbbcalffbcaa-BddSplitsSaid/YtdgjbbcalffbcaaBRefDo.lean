/- The document's Do. -/
import Derived.Test.YtdgjbbcalffbcaaBRefOne
import Derived.Test.YtdgjbbcalffbcaaBSplitAny
import Derived.OwnWalk
namespace Go.Proofs.Ytdgjbbcalffbcaa
open Go.RowKit
attribute [local go_sem ↓] Go.wp_at_zero Go.wp_at_succ

theorem wpList_append_at {P : Program} {w : World} {ops : Array Oper} {rest : List Oper} {o : Oper} {a : Act} {Q : Exit → Act → World → Prop} (hgd : o.guard = none) (s x : Operand) (t : TypeId)
    (ho : o.op = .call { callee := .builtin .append, args := #[s, x], argTypes := #[t, t] })
    (base : Nat) (e : TypeId) (i : TypeInfo) (z : Value) (size bytes : Nat) (ht : P.underlying t = some (.slice e)) (hi : P.info? e = some i) (hz : i.zero = some z)
    (hsize : i.size = size) (hby : i.bytes = bytes) (hzs : z.cells.size = size) (hsz : 0 < size)
    (v : Value) (n : Nat) (xs : List Value) (hs : a.eval s = v) (hown : w.ownsRow base e size v n xs)
    (ad : Addr) (m c : Nat) (news : List Value) (hx : a.eval x = .slice (some ad) m c) (hl : news.length = m * size) (hnews : ∀ j u, news[j]? = some u → w.cell? (ad.add j) = some u) (h1 : ∀ u ∈ news, u.oneCell' = true)
    (h63 : n + m ≤ maxLen) (hbytes : (n + m) * bytes ≤ 140737488355328) (hbase : base ≤ w.heap.size)
    (h : ∀ v' w', w'.ownsRow base e size v' (n + m) (xs ++ news) → w.grownBy w' v.ownBlock → (v'.ownBlock = v.ownBlock ∨ v'.ownBlock = some w.heap.size) → wpList P ops Q rest (a.put o.dst v') w') : wpList P ops Q (o :: rest) a w :=
  wpList_plain hgd fun _ hK => wp_append_at s x t ho base e i z size bytes ht hi hz hsize hby hzs hsz v n xs hs hown ad m c news hx hl hnews h1 h63 hbytes hbase fun v' w' h2 h3 h4 => hK _ _ (h v' w' h2 h3 h4)
theorem one_at (w : World) (a : Value) (t : TypeId) : ∀ (j : Nat) (u : Value), [a][j]? = some u → (w.alloc (.cells #[a] t)).cell? ((⟨w.heap.size, 0, none⟩ : Addr).add j) = some u := fun j u h => by
  rw [Addr.add_lit, Nat.zero_add]
  exact ((Blk.new w t #[a]).cell j).trans (by simpa using h)
theorem one_bool (x : Bool) : ∀ u ∈ [Value.bool x], u.oneCell' = true := by
  intro u hu
  simp at hu
  rcases hu with rfl
  rfl
/-- How many arguments an op has. -/
def needP (k : Int) : Int := if k = 0 then 0 else if k = 1 ∨ k = 6 ∨ k = 7 then 1 else if k = 5 then 3 else 2
def InR (n : Nat) (k : Int) : Prop := 0 ≤ k ∧ k < (n : Int)
def argP (o : Opn) (i : Nat) : Int := if i = 0 then o.a else if i = 1 then o.b else o.c
/-- May the op be? -/
def okP (n : Nat) (o : Opn) : Prop := (0 ≤ o.kind ∧ o.kind ≤ 8) ∧ (∀ i : Nat, (i : Int) < needP o.kind → InR n (argP o i)) ∧ (o.kind = 0 ∨ 5 < o.kind → 0 ≤ o.v ∧ o.v < 12)
theorem need_le (k : Int) : 0 ≤ needP k ∧ needP k ≤ 3 := by unfold needP; split <;> (try split) <;> (try split) <;> omega
/-- A row of tables. -/
def Tabs (W : World) (At : Option Addr) (n : Nat) (tv : Nat → Value) (F : Nat → Nat → Bool) : Prop :=
  0 < n → ∃ b off, At = some ⟨b, off, none⟩ ∧ b < W.heap.size ∧ (∀ j, j < n → W.cell? ⟨b, off + j, none⟩ = some (tv j)) ∧ ∀ j, j < n → Tab W (tv j) (F j)
theorem Tabs.below {W W1 : World} {At : Option Addr} {n : Nat} {tv : Nat → Value} {F : Nat → Nat → Bool} (h : Tabs W At n tv F) (hb : Below W.heap.size W W1) : Tabs W1 At n tv F := fun h0 => by
  obtain ⟨b, off, rfl, hlt, hc, ht⟩ := h h0
  exact ⟨b, off, rfl, Nat.lt_of_lt_of_le hlt hb.size, fun j hj => (hb.cell (p := ⟨b, _, none⟩) hlt).trans (hc j hj), fun j hj => (ht j hj).below hb⟩
def needL : Array Value := #[.int .i64 0, .int .i64 1, .int .i64 2, .int .i64 2, .int .i64 2, .int .i64 3, .int .i64 1, .int .i64 1, .int .i64 2]
theorem needL_at {k : Nat} (h : k ≤ 8) : needL[k]? = some (.int .i64 (needP (k : Int))) := by
  have : k = 0 ∨ k = 1 ∨ k = 2 ∨ k = 3 ∨ k = 4 ∨ k = 5 ∨ k = 6 ∨ k = 7 ∨ k = 8 := by omega
  rcases this with rfl | rfl | rfl | rfl | rfl | rfl | rfl | rfl | rfl <;> rfl
/-- What is in the three places behind i rounds. -/
def inP (o : Opn) (tv : Nat → Value) (i j : Nat) : Value := if j < i then tv (argP o j).toNat else .slice none 0 0
def inL (o : Opn) (tv : Nat → Value) (i : Nat) : Array Value := #[inP o tv i 0, inP o tv i 1, inP o tv i 2]
def opL (o : Opn) : Array Value := #[.int .i64 o.kind, .int .i64 o.v, .int .i64 o.a, .int .i64 o.b, .int .i64 o.c, .bool o.yes]
def argL (o : Opn) : Array Value := #[.int .i64 o.a, .int .i64 o.b, .int .i64 o.c]
theorem argL_at (o : Opn) {i : Nat} (h : i < 3) : (argL o)[i]? = some (.int .i64 (argP o i)) := by
  have : i = 0 ∨ i = 1 ∨ i = 2 := by omega
  rcases this with rfl | rfl | rfl <;> rfl
theorem inL_put (o : Opn) (tv : Nat → Value) {i : Nat} (h : i < 3) : (inL o tv i).setIfInBounds i (tv (argP o i).toNat) = inL o tv (i + 1) := by
  have : i = 0 ∨ i = 1 ∨ i = 2 := by omega
  rcases this with rfl | rfl | rfl <;> simp [inL, inP]
/-- The memory of Do: four blocks at W's end. -/
structure DoR (W : World) (o : Opn) (tv : Nat → Value) (i : Nat) (w : World) : Prop where
  low : Below W.heap.size W w
  b0 : Blk w W.heap.size 31 (opL o)
  b1 : Blk w (W.heap.size + 1) 3 needL
  b2 : Blk w (W.heap.size + 1 + 1) 83 (argL o)
  b3 : Blk w (W.heap.size + 1 + 1 + 1) 84 (inL o tv i)
theorem DoR.below {W w w1 : World} {o : Opn} {tv : Nat → Value} {i : Nat} (h : DoR W o tv i w) (hb : Below w.heap.size w w1) : DoR W o tv i w1 :=
  ⟨h.low.trans (hb.mono h.low.size), h.b0.below hb h.b0.lt, h.b1.below hb h.b1.lt, h.b2.below hb h.b2.lt, h.b3.below hb h.b3.lt⟩
theorem DoR.put {W w : World} {o : Opn} {tv : Nat → Value} {i : Nat} (h : DoR W o tv i w) (hi : i < 3) : DoR W o tv (i + 1) (w.setCell ⟨W.heap.size + 1 + 1 + 1, i, none⟩ (tv (argP o i).toNat)) := by
  refine ⟨h.low.setCell (by show W.heap.size ≤ W.heap.size + 1 + 1 + 1; omega) _, h.b0.far (by show W.heap.size ≠ W.heap.size + 1 + 1 + 1; omega) _, h.b1.far (by show W.heap.size + 1 ≠ W.heap.size + 1 + 1 + 1; omega) _, h.b2.far (by show W.heap.size + 1 + 1 ≠ W.heap.size + 1 + 1 + 1; omega) _, ?_⟩
  rw [← inL_put o tv hi]
  exact h.b3.set_ i _
theorem DoR.grown {W w w1 : World} {o : Opn} {tv : Nat → Value} {i : Nat} {row : Option Nat} (h : DoR W o tv i w) (hg : w.grownBy w1 row) (hr : ∀ g, row = some g → W.heap.size + 1 + 1 + 1 + 1 ≤ g) : DoR W o tv i w1 :=
  ⟨h.low.grown hg h.low.size (fun k hk => by have := hr k hk; omega), h.b0.grown hg (fun e => by have := hr _ e.symm; omega), h.b1.grown hg (fun e => by have := hr _ e.symm; omega), h.b2.grown hg (fun e => by have := hr _ e.symm; omega), h.b3.grown hg (fun e => by have := hr _ e.symm; omega)⟩
theorem do_start (W : World) (o : Opn) (tv : Nat → Value) : DoR W o tv 0 ((((W.alloc (.cells (opL o) 31)).alloc (.cells needL 3)).alloc (.cells (argL o) 83)).alloc (.cells #[.slice none 0 0, .slice none 0 0, .slice none 0 0] 84)) := by
  have s0 : W.heap.size = W.heap.size := rfl
  have s1 := size_up s0 (.cells (opL o) 31)
  have s2 := size_up s1 (.cells needL 3)
  have s3 := size_up s2 (.cells (argL o) 83)
  exact ⟨((((Below.refl W.heap.size W).alloc (Nat.le_refl _) _).alloc (by rw [s1]; omega) _).alloc (by rw [s2]; omega) _).alloc (by rw [s3]; omega) _, (((Blk.new_ s0 _ _).up _).up _).up _, ((Blk.new_ s1 _ _).up _).up _, (Blk.new_ s2 _ _).up _, Blk.new_ s3 _ _⟩
end Go.Proofs.Ytdgjbbcalffbcaa
