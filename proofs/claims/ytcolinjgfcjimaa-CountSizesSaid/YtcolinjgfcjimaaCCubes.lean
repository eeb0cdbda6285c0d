/- The contract of Cubes: all ways to a value, in order. -/
import Derived.Test.YtcolinjgfcjimaaCWays
import Derived.Maps.OwnIn
namespace Go.Proofs.Ytcolinjgfcjimaa
open Go.RowKit
attribute [local go_sem] Oper.semAt_some

abbrev Cb := Nat × Nat
def cubesOf (val : Int) (l : List Way) : List Cb := (l.filter fun w => decide (valueP w.2 = val)).map (·.1)
def cubesL (L : List Nd) (val f : Int) : List Cb := cubesOf val (waysL L f)
def cubeCells (C : List Cb) : List Value := C.flatMap fun c => [.int .u64 (c.1 : Int), .int .u64 (c.2 : Int)]
theorem cubeCells_snoc (C : List Cb) (c : Cb) : cubeCells (C ++ [c]) = cubeCells C ++ [.int .u64 (c.1 : Int), .int .u64 (c.2 : Int)] := by
  unfold cubeCells; rw [List.flatMap_append]; simp
theorem cubeCells_len (C : List Cb) : (cubeCells C).length = C.length * 2 := by
  unfold cubeCells
  induction C with
  | nil => rfl
  | cons x C ih => rw [List.flatMap_cons, List.length_append, ih]; simp; omega
theorem cubesOf_snoc (val : Int) (pre : List Way) (x : Way) : cubesOf val (pre ++ [x]) = cubesOf val pre ++ if valueP x.2 = val then [x.1] else [] := by
  unfold cubesOf
  rw [List.filter_append, List.map_append]
  by_cases h : valueP x.2 = val
  · simp [h]
  · simp [h]
theorem cubesOf_len (val : Int) (l : List Way) : (cubesOf val l).length ≤ l.length := by
  unfold cubesOf
  rw [List.length_map]
  exact List.length_filter_le _ _
/-- While the cubes are gathered: the boxes of the row and of the value, and the row. -/
def CubS (base b5 b7 : Nat) (val : Int) (C : List Cb) (T : Nat → Prop) (W : World) : Prop :=
  ∃ v, Blk W b7 45 #[v] ∧ Blk W b5 3 #[.int .i64 val] ∧ W.ownsRow base 51 2 v C.length (cubeCells C) ∧ ∀ k, T k ↔ k = b7 ∨ k = b5 ∨ v.ownBlock = some k
section
variable {base b5 b7 : Nat} {val : Int} {C : List Cb} {T : Nat → Prop} {W W1 : World}
theorem CubS.only (h : CubS base b5 b7 val C T W) (ho : Only (fun k => ¬ T k) W W1) : CubS base b5 b7 val C T W1 := by
  obtain ⟨v, h1, h2, h3, h4⟩ := h
  exact ⟨v, ho.blk h1 fun h => h ((h4 _).2 (.inl rfl)), ho.blk h2 fun h => h ((h4 _).2 (.inr (.inl rfl))), ho.row h3 fun g hg h => h ((h4 _).2 (.inr (.inr hg))), h4⟩
theorem CubS.old (h : CubS base b5 b7 val C T W) : ∀ k, T k → k < W.heap.size := by
  obtain ⟨v, h1, h2, h3, h4⟩ := h
  intro k hk
  rcases (h4 k).1 hk with rfl | rfl | h
  · exact h1.lt
  · exact h2.lt
  · exact (h3.lt k h).2
end
theorem cubs_stays (base b5 b7 : Nat) (val : Int) : Stays fun (pre : List Way) T W => CubS base b5 b7 val (cubesOf val pre) T W :=
  ⟨fun _ _ _ _ h ho => h.only ho, fun _ _ _ h => h.old⟩
theorem cube_law {own : Nat → Prop} {p lim : Nat} {L : List Nd} {f val : Int} (hR : RightL L) {n : Nat} {g : Operand} {ps : Array Tmp} {assign body : Code} {Q : Exit → Act → World → Prop} {a : Act} {w : World}
    {T0 : Nat → Prop} {base b5 b7 ba bf : Nat} (hg : a.eval g = .func (.func 62) #[] #[.pointer (some ⟨ba, 0, none⟩), .pointer (some ⟨bf, 0, none⟩)]) (hps : 2 = ps.size)
    (hA : Arena w own p lim L) (ha : Blk w ba 24 #[.pointer (some ⟨p, 0, none⟩)]) (hf : Blk w bf 3 #[.int .i64 f])
    (h0 : CubS base b5 b7 val [] T0 w) (hT : ∀ k, T0 k → ¬ own k ∧ k ≠ ba ∧ k ≠ bf) (sc se : Nat)
    (hassign : ∀ (l m : Nat) (x : Way) (W : World) (K : Act → World → Prop), K { tmps := ((((ps.zip (encW x)).foldl (fun t (p, v) => t.setIfInBounds p v) a.tmps).setIfInBounds sc (.pointer (some ⟨W.heap.size, 0, none⟩))).setIfInBounds se (.int .i64 x.2)), defers := [] } (W.alloc (.cells #[.int .u64 (x.1.1 : Int), .int .u64 (x.1.2 : Int)] 51)) → assign.wpIn (Fence.wide.inRound l) m Try.prog (Exit.then K (fun _ _ _ => False)) { tmps := (ps.zip (encW x)).foldl (fun t (p, v) => t.setIfInBounds p v) a.tmps, defers := [] } W)
    (hbody : ∀ (l m : Nat) (C : List Cb) (x : Way) (T : Nat → Prop) (W : World) (bx : Nat), CubS base b5 b7 val C T W → C.length ≤ 4096 → Blk W bx 51 #[.int .u64 (x.1.1 : Int), .int .u64 (x.1.2 : Int)] →
      body.wpIn (Fence.wide.inRound l) m Try.prog (fun e _ W' => e = .normal ∧ ∃ T', CubS base b5 b7 val (C ++ if valueP x.2 = val then [x.1] else []) T' W' ∧ Step T W T' W') { tmps := ((((ps.zip (encW x)).foldl (fun t (p, v) => t.setIfInBounds p v) a.tmps).setIfInBounds sc (.pointer (some ⟨bx, 0, none⟩))).setIfInBounds se (.int .i64 x.2)), defers := [] } W)
    (hdone : ∀ (D : Nat) (T : Nat → Prop) (W' : World), CubS base b5 b7 val (cubesL L val f) T W' → Step T0 w T W' → w.heap.size ≤ D → ¬ T D → W'.heap[D]? = some (.deferred (some [])) → Q .normal { a with defers := { target := .collected D, args := #[] } :: a.defers } W') :
    (Code.rangeFunc g ps assign body).wpIn Fence.wide n Try.prog Q a w := by
  refine range_law hg (enters_of Try.func62 (by kernel_rfl) rfl) (encs := encW) (fun x => hps) (waysL L f) T0 (fun pre T W => CubS base b5 b7 val (cubesOf val pre) T W) (cubs_stays _ _ _ _) h0 ?_
    (fun x bx => { tmps := ((((ps.zip (encW x)).foldl (fun t (p, v) => t.setIfInBounds p v) a.tmps).setIfInBounds sc (.pointer (some ⟨bx, 0, none⟩))).setIfInBounds se (.int .i64 x.2)), defers := [] }) (fun x => .cells #[.int .u64 (x.1.1 : Int), .int .u64 (x.1.2 : Int)] 51) hassign ?_ hdone
  · intro m l W1 J1 S1 hb hJ1 hS1 h1 hY1
    refine iter_ok hR f m ba bf l W1 J1 S1 (hA.below hb) (ha.below hb ha.lt) (hf.below hb hf.lt) (fun k hk => ?_) hJ1 h1 hY1
    rcases hS1 k hk with h | h
    · exact hT k h
    · exact ⟨fun hw => by have := hA.old k hw; omega, fun e => by have := ha.lt; omega, fun e => by have := hf.lt; omega⟩
  · rintro l m pre x T W bx hI hpre hbx _
    have hl : (cubesOf val pre).length ≤ 4096 := by
      have h1 := cubesOf_len val pre
      have h2 := ways_few hR f
      have h3 := hpre.length_le
      rw [List.length_append] at h3
      omega
    refine wpIn_mono (hbody l m _ x T W bx hI hl hbx) ?_
    rintro e a' W' ⟨rfl, T', h1, h2⟩
    exact ⟨rfl, T', by rw [cubesOf_snoc]; exact h1, h2⟩
def RetCubes (L : List Nd) (val f : Int) (w : World) (e : Ending) (w' : World) : Prop := ∃ v, e = .returned v ∧ w'.ownsRow w.heap.size 51 2 v (cubesL L val f).length (cubeCells (cubesL L val f)) ∧ Below w.heap.size w w'
theorem two_cells (w : World) (a b : Value) (t : TypeId) : ∀ (j : Nat) (u : Value), [a, b][j]? = some u → (w.alloc (.cells #[a, b] t)).drew.cell? ((⟨w.heap.size, 0, none⟩ : Addr).add j) = some u := fun j u h => by
  rw [Addr.add_lit, Nat.zero_add]
  exact ((Blk.new w t #[a, b]).cell j).trans (by simpa using h)
theorem two_one (a b : Int) : ∀ u ∈ [Value.int .u64 a, Value.int .u64 b], u.oneCell' = true := by
  intro u hu
  simp at hu
  rcases hu with rfl | rfl <;> rfl
/-- A cube more. -/
theorem CubS.add {base b5 b7 : Nat} {val : Int} {C : List Cb} {T : Nat → Prop} {W W1 : World} {c : Cb} {v v' : Value} (h1 : Blk W b7 45 #[v]) (h2 : Blk W b5 3 #[.int .i64 val]) (h3 : W.ownsRow base 51 2 v C.length (cubeCells C)) (h4 : ∀ k, T k ↔ k = b7 ∨ k = b5 ∨ v.ownBlock = some k)
    (o : Obj) (ho : W1.ownsRow base 51 2 v' (C.length + 1) (cubeCells C ++ [.int .u64 (c.1 : Int), .int .u64 (c.2 : Int)])) (hg : (W.alloc o).drew.grownBy W1 v.ownBlock) (hv : v'.ownBlock = v.ownBlock ∨ v'.ownBlock = some (W.alloc o).drew.heap.size) :
    ∃ T', CubS base b5 b7 val (C ++ [c]) T' (W1.setCell ⟨b7, 0, none⟩ v') ∧ Step T W T' (W1.setCell ⟨b7, 0, none⟩ v') := by
  have hs1 : (W.alloc o).drew.heap.size = W.heap.size + 1 := World.size_alloc W o
  have hon : Only (fun i => v.ownBlock = some i) W W1 := (Only.of_below (((Below.refl W.heap.size W).alloc (Nat.le_refl _) o).drew) _).trans (Only.of_grown hg fun r e => e) fun _ h => .inl h
  have hoff : Only (fun i => i = b7) W1 (W1.setCell ⟨b7, 0, none⟩ v') := Only.of_grown (grown_set W1 ⟨b7, 0, none⟩ v') fun r e => by simpa using e.symm
  have hne7 : v.ownBlock ≠ some b7 := own_blk_ne h3 h1 (by decide)
  have hne5 : v.ownBlock ≠ some b5 := own_blk_ne h3 h2 (by decide)
  have h75 : b7 ≠ b5 := Blk.ne_ h1 h2 (by decide)
  have k1 := hon.blk h1 hne7
  have k2 := hon.blk h2 hne5
  have hne7' : v'.ownBlock ≠ some b7 := own_blk_ne ho k1 (by decide)
  refine ⟨fun k => k = b7 ∨ k = b5 ∨ v'.ownBlock = some k, ⟨v', by simpa using k1.set_ 0 v', hoff.blk k2 fun e => h75 e.symm, ?_, fun k => Iff.rfl⟩, (hon.mono (own1 := T) fun i h => .inl ((h4 i).2 (.inr (.inr h)))).trans hoff ?_, ?_⟩
  · rw [List.length_append, List.length_singleton, cubeCells_snoc]
    exact hoff.row ho fun g hg e => hne7' (e ▸ hg)
  · rintro i rfl
    exact .inl ((h4 _).2 (.inl rfl))
  · rintro k (h | h | h)
    · exact .inl ((h4 k).2 (.inl h))
    · exact .inl ((h4 k).2 (.inr (.inl h)))
    · rcases hv with e | e
      · exact .inl ((h4 k).2 (.inr (.inr (e ▸ h))))
      · rw [e] at h
        injection h with h
        exact .inr (by omega)
theorem cub_keep {base b7 : Nat} {n : Nat} {xs : List Value} {W W1 : World} {v : Value} (h1 : Blk W b7 45 #[v]) (h3 : W.ownsRow base 51 2 v n xs) (o : Obj) (hg : (W.alloc o).drew.grownBy W1 v.ownBlock) : Blk W1 b7 45 #[v] :=
  ((Only.of_below (((Below.refl W.heap.size W).alloc (Nat.le_refl _) o).drew) (fun i => v.ownBlock = some i)).trans (Only.of_grown hg fun r e => e) (own := fun i => v.ownBlock = some i) fun _ h => .inl h).blk h1 (own_blk_ne h3 h1 (by decide))
theorem cub_cell {base b7 : Nat} {n : Nat} {xs : List Value} {W W1 : World} {v : Value} (h1 : Blk W b7 45 #[v]) (h3 : W.ownsRow base 51 2 v n xs) (o : Obj) (hg : (W.alloc o).drew.grownBy W1 v.ownBlock) : W1.cell? ⟨b7, 0, none⟩ = some v := (cub_keep h1 h3 o hg).cell 0
theorem cub_frozen {base b7 : Nat} {n : Nat} {xs : List Value} {W W1 : World} {v : Value} (h1 : Blk W b7 45 #[v]) (h3 : W.ownsRow base 51 2 v n xs) (o : Obj) (hg : (W.alloc o).drew.grownBy W1 v.ownBlock) : W1.frozen? ⟨b7, 0, none⟩ = false := (cub_keep h1 h3 o hg).frozen 0
section
variable {W : World} {own : Nat → Prop} {p lim : Nat} {L : List Nd} {f val : Int}
set_option maxRecDepth 100000 in
theorem cubes_none (h : Arena W own p lim L) (hf : hasP L.length f = false) : Calls Try.prog 22 #[.pointer (some ⟨p, 0, none⟩), .int .i64 f, .int .i64 val] W fun e w' => e = .returned (.slice none 0 0) ∧ Below W.heap.size W w' := by
  have hb := (Below.refl W.heap.size W).alloc (Nat.le_refl _) (.cells #[.int .i64 val] 3)
  have hh := arena_has (r := f) (h.below hb)
  rw [hf] at hh
  have HH := Lib.hid hh
  have HB := Lib.hid hb
  clear h hf hh hb
  go_enter Try.func22, Try.ntmps22
  go_wp2_with (go_at_call 24; ((with_reducible refine HH.out.mono ?_); rintro e w1 ⟨rfl, rfl⟩))
  go_ret
  exact ⟨rfl, HB.out⟩
set_option maxRecDepth 100000 in
set_option maxHeartbeats 3200000 in
theorem cubes_any (h : Arena W own p lim L) (hf : hasP L.length f = true) : Calls Try.prog 22 #[.pointer (some ⟨p, 0, none⟩), .int .i64 f, .int .i64 val] W (RetCubes L val f W) := by
  obtain ⟨m, -⟩ : ∃ m : Nat, m = 0 := ⟨0, rfl⟩
  refine (callsIn_wide (n := m)).1 ?_
  have hb := (Below.refl W.heap.size W).alloc (Nat.le_refl _) (.cells #[.int .i64 val] 3)
  have hh := arena_has (r := f) (h.below hb)
  rw [hf] at hh
  have HH := Lib.hid (fun m => (callsIn_wide (n := m)).2 hh)
  have hR := h.right
  have hOl := h.old
  have hinfo : (Try.prog.info? 51).map (fun i => (i.zero, i.size, i.bytes)) = some (some (.agg #[.int .u64 0, .int .u64 0]), 2, 16) := by kernel_rfl
  obtain ⟨i0, hi, hz0, hz1, hz2⟩ := info_parts hinfo
  refine callsIn_of_wp_marks Try.func22 rfl trivial ?_ rfl
  simp only [Try.ntmps22, List.size_toArray, List.length_cons, List.length_nil, Nat.reduceAdd, Nat.reduceSub, Array.replicate_succ, Array.replicate_zero, List.push_toArray, List.append_toArray, List.nil_append, List.cons_append]
  gi_wp2_with (first
    | (refine ⟨trivial, (fun h => by cases h), ?_⟩; (with_reducible refine (HH.out _).mono ?_); rintro e w1 ⟨rfl, rfl⟩)
    | (refine ⟨trivial, (fun h => by cases h), ?_⟩; (with_reducible refine (ways_in _ _ _).mono ?_); rintro e w3 ⟨rfl, rfl⟩))
  have s1 := size_up (rfl : W.heap.size = W.heap.size) (.cells #[.int .i64 val] 3)
  have s2 := size_up s1 (.cells #[.slice none 0 0] 45)
  have s3 := size_up s2 (.cells #[.pointer (some ⟨p, 0, none⟩)] 24)
  have hb4 := (((hb.alloc (by rw [s1]; omega) (.cells #[.slice none 0 0] 45)).alloc (by rw [s2]; omega) (.cells #[.pointer (some ⟨p, 0, none⟩)] 24)).alloc (by rw [s3]; omega) (.cells #[.int .i64 f] 3))
  have k5 := (((Blk.new W 3 #[.int .i64 val]).up (.cells #[.slice none 0 0] 45)).up (.cells #[.pointer (some ⟨p, 0, none⟩)] 24)).up (.cells #[.int .i64 f] 3)
  have k7 := ((Blk.new_ s1 45 #[.slice none 0 0]).up (.cells #[.pointer (some ⟨p, 0, none⟩)] 24)).up (.cells #[.int .i64 f] 3)
  have ka := (Blk.new_ s2 24 #[.pointer (some ⟨p, 0, none⟩)]).up (.cells #[.int .i64 f] 3)
  have kf := Blk.new_ s3 3 #[.int .i64 f]
  refine cube_law (val := val) hR (base := W.heap.size) (b5 := W.heap.size) (b7 := W.heap.size + 1) (ba := W.heap.size + 1 + 1) (bf := W.heap.size + 1 + 1 + 1) (T0 := fun k => k = W.heap.size + 1 ∨ k = W.heap.size) (by rfl) (by rfl) (h.below hb4) ka kf ⟨_, k7, k5, World.ownsRow_nil _ _ _ _, fun k => by simp [Value.ownBlock]⟩ ?far 8 9 ?assign ?body ?done
  case far =>
    rintro k (rfl | rfl)
    · exact ⟨fun h => by have := hOl _ h; omega, by omega, by omega⟩
    · exact ⟨fun h => by have := hOl _ h; omega, by omega, by omega⟩
  case assign =>
    intro l m x W K hK
    simp [encW] at hK ⊢
    gi_wp2
    exact hK
  case body =>
    rintro l m C ⟨⟨mk, bs⟩, er⟩ T Wq bx hS hC hbx
    obtain ⟨v, h1, h2, h3, h4⟩ := hS
    rename_i K0 hK0
    clear hK0 HH hh h hf hb hb4 k5 k7 ka kf s1 s2 s3 hR hOl
    have hmix : Try.prog.follows .mixedOrders = true := by kernel_rfl
    have d5 : Wq.drew.cell? ⟨W.heap.size, 0, none⟩ = some (.int .i64 val) := h2.cell 0
    have d7 : Wq.drew.cell? ⟨W.heap.size + 1, 0, none⟩ = some v := h1.cell 0
    have e0 : Wq.drew.cell? ⟨bx, 0, none⟩ = some (.int .u64 (mk : Int)) := hbx.cell 0
    have e1 : Wq.drew.cell? ⟨bx, 1, none⟩ = some (.int .u64 (bs : Int)) := hbx.cell 1
    have hdr := (Below.refl Wq.heap.size Wq).drew
    have g1 := h1.below hdr h1.lt
    have g2 := h2.below hdr h2.lt
    have g3 := own_below h3 hdr
    simp [encW]
    by_cases hv : valueP er = val
    · rw [if_pos hv]
      have hq : (valueP er == val) = true := by simp [hv]
      gi_wp2
      gi_region_with_o (first
        | (refine ⟨trivial, (fun h => by cases h), (?_ : CallsIn (Fence.wide.inRound _) _ _ 25 _ _ _)⟩; refine (CallsIn.inRound _ (callsIn_wide.2 (value_any _ _))).mono ?_; rintro e w5 ⟨rfl, rfl⟩))
      all_goals
        gi_wp2_with (first
          | (gi_at_builtin; refine wpListIn_append_own_at _ rfl _ _ 45 rfl W.heap.size 51 i0 (.agg #[.int .u64 0, .int .u64 0]) 2 16 Try.underlying45 hi hz0 hz1 hz2 rfl (by decide) _ _ _ rfl (h3.alloc _).drew ⟨Wq.heap.size, 0, none⟩ 1 1 [.int .u64 (mk : Int), .int .u64 (bs : Int)] rfl rfl (two_cells _ _ _ _) (two_one _ _) (by unfold maxLen; omega) (by omega) (Nat.le_trans (Nat.le_of_lt h2.lt) (by simp)) ?_; intro v' w6 ho hg _ hvo; obtain ⟨g6, c6, hv6⟩ := row_form ho; subst hv6; have c7 := cub_cell h1 h3 _ hg; have f7 := cub_frozen h1 h3 _ hg; have HA := Lib.hid (CubS.add h1 h2 h3 h4 _ (c := (mk, bs)) ho hg hvo); clear ho hg hvo))
        exact HA.out
    · rw [if_neg hv]
      have hq : (valueP er == val) = false := by simp [hv]
      gi_wp2
      gi_region_with_o (first
        | (refine ⟨trivial, (fun h => by cases h), (?_ : CallsIn (Fence.wide.inRound _) _ _ 25 _ _ _)⟩; refine (CallsIn.inRound _ (callsIn_wide.2 (value_any _ _))).mono ?_; rintro e w5 ⟨rfl, rfl⟩))
      all_goals gi_wp2
      all_goals exact ⟨T, ⟨v, g1, g2, by simpa using g3, h4⟩, Only.of_below hdr _, fun _ h => .inl h⟩
  case done =>
    rintro D T W' ⟨v, h1, h2, h3, h4⟩ hst hD hTD hdef
    have c7 : W'.cell? ⟨W.heap.size + 1, 0, none⟩ = some v := h1.cell 0
    have hs4 := hb4.size
    have hbW := hb4.trans (hst.1.below hs4 fun i hi => by rcases hi with rfl | rfl <;> omega)
    gi_wp2
    refine ⟨by simp, .inl ⟨_, _, rfl, run_takeDeferred hdef, ?_⟩⟩
    have hop := only_put (own := fun k => k = D) W' (.deferred none) rfl
    exact ⟨_, results_tmp rfl _ _ _, v, rfl, hop.row h3 fun g hg e => hTD ((h4 _).2 (.inr (.inr (e ▸ hg)))), hbW.trans (hop.below hbW.size fun i hi => by subst hi; omega)⟩
end
end Go.Proofs.Ytcolinjgfcjimaa
