/- What becomes of an arena's memory: a place is written, a new table is laid, a node is appended. -/
import Derived.Test.YtlddelnbjihhgaaDoorNFind
import Derived.Maps.AppendAt
namespace Go.Proofs.YtlddelnbjihhgaaDoor
open Go.RowKit

theorem rows_apart {W : World} {b1 b2 n1 n2 s1 s2 : Nat} {e1 e2 : TypeId} {v1 v2 : Value} {xs ys : List Value} (h1 : W.ownsRow b1 e1 s1 v1 n1 xs) (h2 : W.ownsRow b2 e2 s2 v2 n2 ys) (hne : e1 ≠ e2) {g : Nat} (hg : v2.ownBlock = some g) : v1.ownBlock ≠ some g := by
  rcases h2.2 with ⟨rfl, _⟩ | ⟨g', cap, cur, rfl, _, hh, _⟩
  · simp [Value.ownBlock] at hg
  · obtain rfl : g' = g := by simpa [Value.ownBlock] using hg
    exact own_blk_ne h1 (show Blk W g' e2 cur from hh) hne
theorem grown_set (W : World) (a : Addr) (v : Value) : W.grownBy (W.setCell a v) (some a.block) :=
  ⟨rfl, rfl, rfl, (by simp), fun k _ hk => Below.heap_setCell _ _ _ k (fun e => hk (by rw [e]))⟩
theorem size_set (W : World) (a : Addr) (v : Value) : (W.setCell a v).heap.size = W.heap.size := by simp

section
variable {W W1 : World} {own : Nat → Prop} {p lim P cn cp : Nat} {L : List Nd} {T : Nat → Nat} {An Ap : Option Addr}
theorem ArenaR.put {g s : Nat} (h : ArenaR W own p lim L P T An (some ⟨g, 0, none⟩) cn cp) (hs : s < P) (v : Nat) :
    ArenaR (W.setCell ⟨g, s, none⟩ (.int .i64 (v : Int))) own p lim L P (putT T s v) An (some ⟨g, 0, none⟩) cn cp ∧ Only own W (W.setCell ⟨g, s, none⟩ (.int .i64 (v : Int))) := by
  have h1 : g ≠ p := fun e => own_blk_ne h.rowP h.blk (by decide) (by rw [e]; rfl)
  have h2 := rows_apart h.rowN h.rowP (by decide) (g := g) rfl
  have hg := grown_set W ⟨g, s, none⟩ (.int .i64 (v : Int))
  have h3 := (h.rowP.stored s (.int .i64 (v : Int))).1
  rw [placesL_put T hs] at h3
  exact ⟨⟨h.blk.far (p := ⟨g, s, none⟩) (fun e => h1 e.symm) _, h.mine, h.mineN, h.mineP, fun i hi => by rw [size_set]; exact h.old i hi, h.rowN.kept hg (.inr h2), h3, h.limit, h.few, h.room⟩,
    Only.of_grown hg fun r e => h.mineP r e⟩
/-- A new table, of free places alone. -/
theorem ArenaR.table (h : ArenaR W own p lim L P T An Ap cn cp) {Q : Nat} {cs : Array Value} (hcs : cs.toList = placesL Q (fun _ => 0)) (hQ : Q ≤ 20000) :
    ArenaR ((W.alloc (.cells cs 3)).setCell ⟨p, 2, none⟩ (.slice (some ⟨W.heap.size, 0, none⟩) Q Q)) (fun i => own i ∨ i = W.heap.size) p lim L Q (fun _ => 0) An (some ⟨W.heap.size, 0, none⟩) cn Q ∧
      Only own W ((W.alloc (.cells cs 3)).setCell ⟨p, 2, none⟩ (.slice (some ⟨W.heap.size, 0, none⟩) Q Q)) := by
  have hb := (Below.refl W.heap.size W).alloc (Nat.le_refl _) (.cells cs 3)
  have h1 := h.below hb
  have ho := World.ownsRow_lit (base := 0) (e := 3) (size := 1) W cs Q (Nat.zero_le _) (by unfold maxLen; omega) (by rw [← Array.length_toList, hcs, placesL_len]; simp)
  have hg := grown_set (W.alloc (.cells cs 3)) ⟨p, 2, none⟩ (.slice (some ⟨W.heap.size, 0, none⟩) Q Q)
  have hN := own_blk_ne h1.rowN h1.blk (by decide)
  have hP := own_blk_ne ho h1.blk (by decide)
  rw [hcs] at ho
  refine ⟨⟨h1.blk.set_ 2 _, .inl h.mine, fun g hg => .inl (h.mineN g hg), fun g hg => .inr ?_, fun i hi => ?_, h1.rowN.kept hg (.inr hN), ho.kept hg (.inr hP), h.limit, h.few, hQ⟩, ?_⟩
  · simpa [Value.ownBlock] using hg.symm
  · rw [size_set]
    rcases hi with hi | rfl
    · exact Nat.lt_of_lt_of_le (h.old i hi) hb.size
    · simp
  · exact (Only.of_below hb own).trans (Only.of_grown hg (own := fun i => i = p) fun r e => by simpa using e.symm) fun i hi => .inl (by rw [hi]; exact h.mine)
/-- A node is appended. -/
theorem ArenaR.more {x : Nd} {v' : Value} (h : ArenaR W own p lim L P T An Ap cn cp) (hf : L.length + 1 ≤ 4000) (ho : W1.ownsRow 0 106 3 v' (L.length + 1) (cellsL L ++ [.int .i64 x.1, .int .i64 x.2.1, .int .i64 x.2.2])) (hg : W.grownBy W1 (Value.slice An L.length cn).ownBlock)
    (hl : v'.ownBlock = (Value.slice An L.length cn).ownBlock ∨ ∃ g, v'.ownBlock = some g ∧ W.heap.size ≤ g) :
    ∃ An' cn', v' = .slice An' (L.length + 1) cn' ∧ ArenaR (W1.setCell ⟨p, 1, none⟩ v') (fun i => own i ∨ (W.heap.size ≤ i ∧ i < W1.heap.size)) p lim (L ++ [x]) P T An' Ap cn' cp ∧ Only own W (W1.setCell ⟨p, 1, none⟩ v') := by
  obtain ⟨A', c', hv⟩ : ∃ A' c', v' = .slice A' (L.length + 1) c' := by
    rcases ho.2 with ⟨_, h0⟩ | ⟨g, cap, cur, rfl, _⟩
    · omega
    · exact ⟨_, _, rfl⟩
  have hN := own_blk_ne h.rowN h.blk (by decide)
  have b1 : Blk W1 p 131 #[.int .i64 lim, .slice An L.length cn, .slice Ap P cp] := h.blk.grown hg hN.symm
  have hP1 : W1.ownsRow 0 3 1 (.slice Ap P cp) P (placesL P T) := h.rowP.kept hg (by
    cases e : (Value.slice Ap P cp).ownBlock with
    | none => exact .inl rfl
    | some g => exact .inr fun e2 => rows_apart h.rowN h.rowP (by decide) e e2.symm)
  have hs := grown_set W1 ⟨p, 1, none⟩ v'
  have hN1 := own_blk_ne ho b1 (by decide)
  have hPp := own_blk_ne hP1 b1 (by decide)
  have hW1 := hg.size
  subst hv
  refine ⟨A', c', rfl, ⟨?_, .inl h.mine, fun g e => ?_, fun g e => .inl (h.mineP g e), fun i hi => ?_, ?_, hP1.kept hs (.inr hPp), h.limit, by simpa using hf, h.room⟩, ?_⟩
  · have := b1.set_ 1 (.slice A' (L.length + 1) c')
    simpa using this
  · rw [List.length_append, List.length_singleton] at e
    rcases hl with hl | ⟨k, hk, hge⟩
    · exact .inl (h.mineN g (hl.symm.trans e))
    · have : k = g := Option.some.inj (hk.symm.trans e)
      subst this
      exact .inr ⟨hge, (ho.lt k e).2⟩
  · rw [size_set]
    rcases hi with hi | hi
    · exact Nat.lt_of_lt_of_le (h.old i hi) hW1
    · exact hi.2
  · rw [List.length_append, List.length_singleton, cellsL_snoc]
    exact ho.kept hs (.inr hN1)
  · exact (Only.of_grown hg fun r e => h.mineN r e).trans (Only.of_grown hs (own := fun i => i = p) fun r e => by simpa using e.symm) fun i hi => .inl (by rw [hi]; exact h.mine)
end

section
variable {P : Program} {w : World}
theorem wp_append_at {o : Oper} {a : Act} {K : Act → World → Prop} {Q : Exit → Act → World → Prop} (s x : Operand) (t : TypeId)
    (ho : o.op = .call { callee := .builtin .append, args := #[s, x], argTypes := #[t, t] })
    (base : Nat) (e : TypeId) (i : TypeInfo) (z : Value) (size bytes : Nat) (ht : P.underlying t = some (.slice e)) (hi : P.info? e = some i) (hz : i.zero = some z)
    (hsize : i.size = size) (hby : i.bytes = bytes) (hzs : z.cells.size = size) (hsz : 0 < size)
    (v : Value) (n : Nat) (xs : List Value) (hs : a.eval s = v) (hown : w.ownsRow base e size v n xs)
    (ad : Addr) (m c : Nat) (news : List Value) (hx : a.eval x = .slice (some ad) m c) (hl : news.length = m * size) (hnews : ∀ j u, news[j]? = some u → w.cell? (ad.add j) = some u) (h1 : ∀ u ∈ news, u.oneCell' = true)
    (h63 : n + m ≤ maxLen) (hbytes : (n + m) * bytes ≤ 140737488355328) (hbase : base ≤ w.heap.size)
    (h : ∀ v' w', w'.ownsRow base e size v' (n + m) (xs ++ news) → w.grownBy w' v.ownBlock → (v'.ownBlock = v.ownBlock ∨ v'.ownBlock = some w.heap.size) → K (a.put o.dst v') w') : o.wp P a w K Q := by
  obtain ⟨v', w', hrun, h2, h3, _, h4⟩ := run_append_own_at (P := P) w base t o.type e i z size bytes ht hi hz hsize hby hzs hsz v n xs hown ad m c news hl hnews h1 h63 hbytes hbase
  unfold Oper.wp execOp
  simp only [ho, resolve, invoke, builtin, Sem.run_bind, Sem.run_pure, Result.andThen_ok, List.map_toArray, List.map_cons, List.map_nil, hs, hx, hrun]
  exact h v' w' h2 h3 h4
end
end Go.Proofs.YtlddelnbjihhgaaDoor
