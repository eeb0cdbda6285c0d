/- Two rows of numbers that grow side by side, in a region that draws its order. -/
import Derived.Test.YthaehnkmjnkcpaaDoorTightNums
import Derived.Test.YthaehnkmjnkcpaaDoorGet
import Derived.Maps.AppendAt
import Derived.Deep.RegionLaw
namespace Go.Proofs.YthaehnkmjnkcpaaDoor
open Go.RowKit

section
variable {P : Program} {w : World}
theorem wp_append_at {o : Oper} {a : Act} {K : Act → World → Prop} {Q : Exit → Act → World → Prop} (s x : Operand) (t : TypeId)
    (ho : o.op = .call { callee := .builtin .append, args := #[s, x], argTypes := #[t, t] })
    (base : Nat) (e : TypeId) (i : TypeInfo) (z : Value) (size bytes : Nat) (ht : P.underlying t = some (.slice e)) (hi : P.info? e = some i) (hz : i.zero = some z)
    (hsize : i.size = size) (hby : i.bytes = bytes) (hzs : z.cells.size = size) (hsz : 0 < size)
    (v : Value) (n : Nat) (xs : List Value) (hs : a.eval s = v) (hown : w.ownsRow base e size v n xs)
    (ad : Addr) (m c : Nat) (news : List Value) (hx : a.eval x = .slice (some ad) m c) (hl : news.length = m * size) (hnews : ∀ j u, news[j]? = some u → w.cell? (ad.add j) = some u) (h1 : ∀ u ∈ news, u.oneCell' = true)
    (h63 : n + m ≤ maxLen) (hbytes : (n + m) * bytes ≤ 140737488355328) (hbase : base ≤ w.heap.size)
    (h : ∀ v' w', w'.ownsRow base e size v' (n + m) (xs ++ news) → w.grownBy w' v.ownBlock → (v'.ownBlock = v.ownBlock ∨ v'.ownBlock = some w.heap.size) → K (a.put o.dst v') w') : o.wp P a w K Q := by
  obtain ⟨v', w', hrun, h2, h3, _, h4⟩ := run_append_own_at (P := P) w base t o.type e i z size bytes ht hi hz hsize hby hzs hsz v n xs hown ad m c news hl hnews h1 h63 hbytes hbase
  unfold Oper.wp execOp
  simp only [ho, resolve, invoke, builtin, Sem.run_bind, Sem.run_pure, Result.andThen_ok, List.map_toArray, List.map_cons, List.map_nil, hs, hx, hrun]
  exact h v' w' h2 h3 h4
end
theorem step_append_at {P : Program} {w : World} {ops : Array Oper} {o : Oper} {a : Act} {K : Act → World → Prop} {Q : Exit → Act → World → Prop} {E : Prop} (hgd : o.guard = none) (s x : Operand) (t : TypeId)
    (ho : o.op = .call { callee := .builtin .append, args := #[s, x], argTypes := #[t, t] })
    (base : Nat) (e : TypeId) (i : TypeInfo) (z : Value) (size bytes : Nat) (ht : P.underlying t = some (.slice e)) (hi : P.info? e = some i) (hz : i.zero = some z)
    (hsize : i.size = size) (hby : i.bytes = bytes) (hzs : z.cells.size = size) (hsz : 0 < size)
    (v : Value) (n : Nat) (xs : List Value) (hs : a.eval s = v) (hown : w.ownsRow base e size v n xs)
    (ad : Addr) (m c : Nat) (news : List Value) (hx : a.eval x = .slice (some ad) m c) (hl : news.length = m * size) (hnews : ∀ j u, news[j]? = some u → w.cell? (ad.add j) = some u) (h1 : ∀ u ∈ news, u.oneCell' = true)
    (h63 : n + m ≤ maxLen) (hbytes : (n + m) * bytes ≤ 140737488355328) (hbase : base ≤ w.heap.size)
    (h : ∀ v' w', w'.ownsRow base e size v' (n + m) (xs ++ news) → w.grownBy w' v.ownBlock → (v'.ownBlock = v.ownBlock ∨ v'.ownBlock = some w.heap.size) → K (a.put o.dst v') w') :
    if Region.wanted o (yielded ops a.tmps) = true then Oper.wp P o a w K Q else E := by
  have hw : Region.wanted o (yielded ops a.tmps) = true := by simp [Region.wanted, hgd]
  rw [if_pos hw]
  exact wp_append_at s x t ho base e i z size bytes ht hi hz hsize hby hzs hsz v n xs hs hown ad m c news hx hl hnews h1 h63 hbytes hbase h
def hiL (C : Mat) (n : Nat) : List Value := (List.range n).map fun k => .int .i64 (C (k + 1) 0)
def loL (C : Mat) (n : Nat) : List Value := (List.range n).map fun k => .int .i64 (-(C 0 (k + 1)))
theorem hiL_next (C : Mat) (n : Nat) : hiL C n ++ [.int .i64 (C (n + 1) 0)] = hiL C (n + 1) := by unfold hiL; rw [List.range_succ, List.map_append]; rfl
theorem loL_next (C : Mat) (n : Nat) : loL C n ++ [.int .i64 (-(C 0 (n + 1)))] = loL C (n + 1) := by unfold loL; rw [List.range_succ, List.map_append]; rfl
/-- Both rows; apart. -/
structure TR (w5 : World) (vh vl : Value) (nh nl : Nat) (xs ys : List Value) (W : World) : Prop where
  low : Below w5.heap.size w5 W
  h : W.ownsRow w5.heap.size 3 1 vh nh xs
  l : W.ownsRow w5.heap.size 3 1 vl nl ys
  apart : vh.ownBlock = none ∨ vl.ownBlock = none ∨ vh.ownBlock ≠ vl.ownBlock
section
variable {w5 W W1 : World} {vh vl v' : Value} {nh nl : Nat} {xs ys : List Value} {x : Value}
theorem tr_start (w : World) : TR w (.slice none 0 0) (.slice none 0 0) 0 0 [] [] w := ⟨Below.refl _ _, World.ownsRow_nil _ _ _ _, World.ownsRow_nil _ _ _ _, .inl rfl⟩
theorem own_under (h : W.ownsRow w5.heap.size 3 1 vh nh xs) (hb : Below W.heap.size W W1) : W1.ownsRow w5.heap.size 3 1 vh nh xs :=
  h.kept (row := none) ⟨hb.os, hb.tape, hb.output, hb.size, fun i hi _ => hb.block i hi⟩ (by cases vh.ownBlock <;> simp)
theorem TR.below (t : TR w5 vh vl nh nl xs ys W) (hb : Below W.heap.size W W1) : TR w5 vh vl nh nl xs ys W1 := ⟨t.low.trans (hb.mono t.low.size), own_under t.h hb, own_under t.l hb, t.apart⟩
theorem TR.addH (t : TR w5 vh vl nh nl xs ys W) (ho : W1.ownsRow w5.heap.size 3 1 v' (nh + 1) (xs ++ [x])) (hg : W.grownBy W1 vh.ownBlock) (hv : v'.ownBlock = vh.ownBlock ∨ v'.ownBlock = some W.heap.size) : TR w5 v' vl (nh + 1) nl (xs ++ [x]) ys W1 := by
  refine ⟨t.low.grown hg t.low.size fun k e => (t.h.lt k e).1, ho, t.l.kept hg ?_, ?_⟩
  · rcases t.apart with h | h | h
    · rw [h]; cases vl.ownBlock <;> simp
    · exact .inl h
    · exact .inr fun e => h e.symm
  · rcases hv with e | e
    · rw [e]; exact t.apart
    · rcases h : vl.ownBlock with _ | g
      · exact .inr (.inl rfl)
      · refine .inr (.inr ?_)
        rw [e]
        have := (t.l.lt g h).2
        intro e2
        injection e2 with e2
        omega
theorem TR.swap (t : TR w5 vh vl nh nl xs ys W) : TR w5 vl vh nl nh ys xs W := ⟨t.low, t.l, t.h, by rcases t.apart with h | h | h; exact .inr (.inl h); exact .inl h; exact .inr (.inr fun e => h e.symm)⟩
theorem TR.addL (t : TR w5 vh vl nh nl xs ys W) (ho : W1.ownsRow w5.heap.size 3 1 v' (nl + 1) (ys ++ [x])) (hg : W.grownBy W1 vl.ownBlock) (hv : v'.ownBlock = vl.ownBlock ∨ v'.ownBlock = some W.heap.size) : TR w5 vh v' nh (nl + 1) xs (ys ++ [x]) W1 := (t.swap.addH ho hg hv).swap
end
/-- And the span's box. -/
structure RS (w5 : World) (sb : Nat) (lo hi : Int) (vh vl : Value) (nh nl : Nat) (xs ys : List Value) (W : World) : Prop where
  tr : TR w5 vh vl nh nl xs ys W
  s : Duo W sb 32 (.int .i64 lo) (.int .i64 hi)
section
variable {w5 W W1 : World} {sb : Nat} {lo hi : Int} {vh vl v' : Value} {nh nl : Nat} {xs ys : List Value} {x : Value}
theorem RS.below (t : RS w5 sb lo hi vh vl nh nl xs ys W) (hb : Below W.heap.size W W1) : RS w5 sb lo hi vh vl nh nl xs ys W1 := ⟨t.tr.below hb, t.s.below hb⟩
theorem RS.alloc (t : RS w5 sb lo hi vh vl nh nl xs ys W) (o : Obj) : RS w5 sb lo hi vh vl nh nl xs ys (W.alloc o) := t.below (zboxed W o)
theorem RS.drew (t : RS w5 sb lo hi vh vl nh nl xs ys W) : RS w5 sb lo hi vh vl nh nl xs ys W.drew := ⟨⟨t.tr.low.drew, t.tr.h, t.tr.l, t.tr.apart⟩, t.s⟩
theorem RS.addH (t : RS w5 sb lo hi vh vl nh nl xs ys W) (ho : W1.ownsRow w5.heap.size 3 1 v' (nh + 1) (xs ++ [x])) (hg : W.grownBy W1 vh.ownBlock) (hv : v'.ownBlock = vh.ownBlock ∨ v'.ownBlock = some W.heap.size) : RS w5 sb lo hi v' vl (nh + 1) nl (xs ++ [x]) ys W1 :=
  ⟨t.tr.addH ho hg hv, t.s.kept hg (t.s.not_row (by decide) t.tr.h)⟩
theorem RS.addL (t : RS w5 sb lo hi vh vl nh nl xs ys W) (ho : W1.ownsRow w5.heap.size 3 1 v' (nl + 1) (ys ++ [x])) (hg : W.grownBy W1 vl.ownBlock) (hv : v'.ownBlock = vl.ownBlock ∨ v'.ownBlock = some W.heap.size) : RS w5 sb lo hi vh v' nh (nl + 1) xs (ys ++ [x]) W1 :=
  ⟨t.tr.addL ho hg hv, t.s.kept hg (t.s.not_row (by decide) t.tr.l)⟩
theorem RS.cells (t : RS w5 sb lo hi vh vl nh nl xs ys W) : W.cell? ⟨sb, 0, none⟩ = some (.int .i64 lo) ∧ W.cell? ⟨sb, 1, none⟩ = some (.int .i64 hi) := ⟨t.s.cell0, t.s.cell1⟩
end
/-- A number's own block, that a row is given. -/
theorem one_news {W : World} {b : Nat} {v : Value} (h : Boxed W b 3 v) : ∀ (j : Nat) (u : Value), [v][j]? = some u → W.cell? ((⟨b, 0, none⟩ : Addr).add j) = some u := fun j u hu => by
  have hj : j = 0 := by have := (List.getElem?_eq_some_iff.1 hu).1; simp at this; exact this
  subst hj
  simp at hu
  subst hu
  exact h.cell
theorem one_num (x : Int) : ∀ u ∈ [Value.int .i64 x], u.oneCell' = true := by
  intro u hu
  simp at hu
  subst hu
  rfl
theorem box_grown {W W1 : World} {b n k : Nat} {v u : Value} {B : Nat} {xs : List Value} (h : Boxed W b 3 v) (hg : W.grownBy W1 u.ownBlock) {W0 : World} (ho : W0.ownsRow B 3 1 u n xs) (hk : W0.heap.size ≤ k) (hb : b = k ∨ b = k + 1) : Boxed W1 b 3 v :=
  (hg.block b h.lt (fun e => by have := (ho.lt b e.symm).2; omega)).trans h
theorem box_two (W : World) (x y : Value) : Boxed ((W.alloc (.cells #[x] 3)).alloc (.cells #[y] 3)) W.heap.size 3 x ∧ Boxed ((W.alloc (.cells #[x] 3)).alloc (.cells #[y] 3)) (W.heap.size + 1) 3 y := by
  have h1 : Boxed (W.alloc (.cells #[x] 3)) W.heap.size 3 x := World.alloc_heap_new W _
  have h2 : Boxed ((W.alloc (.cells #[x] 3)).alloc (.cells #[y] 3)) (W.alloc (.cells #[x] 3)).heap.size 3 y := World.alloc_heap_new _ _
  rw [World.size_alloc] at h2
  exact ⟨boxed_below h1 (zboxed _ _), h2⟩
end Go.Proofs.YthaehnkmjnkcpaaDoor
