/- The contract of the iterator over all ways from a ref: by the diagram, from the ends upward. -/
import Derived.Test.YtcolinjgfcjimaaCRegion
import Derived.Shelf.Abstract
import Derived.Shelf.RegionOpen
import Derived.OwnWalkIn
import Derived.TacticsInMore
import Derived.LoopNIn
import Derived.LoopIn
import Derived.Laws.Bits64b
namespace Go.Proofs.Ytcolinjgfcjimaa
open Go.RowKit
attribute [local go_sem] Oper.semAt_some
attribute [local go_sem] evalV valV List.find?_cons

theorem room_none {F : Fence} (hd : F.depth = none) (k : Nat) : F.room k := fun d h => by rw [hd] at h; cases h
theorem round_any {m m' : Nat} {P : Program} {l : Nat} {f : FuncId} {tmps : Array Value} {assign body : Code} {w : World} {R : Ending → World → Prop}
    (h : RoundIn Fence.wide m P l f tmps assign body w R) : RoundIn Fence.wide m' P l f tmps assign body w R := ⟨h.1, fun c cs _ => h.2 c cs (room_none rfl _)⟩
/-- What yield is handed: a way's bits, and the ref at its end. -/
def encW (w : Way) : Array Value := #[.agg #[.int .u64 (w.1.1 : Int), .int .u64 (w.1.2 : Int)], .int .i64 w.2]
def IterOK (own : Nat → Prop) (p lim : Nat) (L : List Nd) (r : Int) : Prop := ∀ (m ba bf l : Nat) (W : World) (J : List Way → (Nat → Prop) → World → Prop) (S : Nat → Prop),
  Arena W own p lim L → Blk W ba 24 #[.pointer (some ⟨p, 0, none⟩)] → Blk W bf 3 #[.int .i64 r] → (∀ k, S k → ¬ own k ∧ k ≠ ba ∧ k ≠ bf) → Stays J → J [] S W → Rounds Try.prog l encW J (waysL L r) →
  CallsIn Fence.wide m Try.prog 62 #[.func (.yield l) #[] #[], .pointer (some ⟨ba, 0, none⟩), .pointer (some ⟨bf, 0, none⟩)] W (Gave J (waysL L r) S W)
theorem getN_in {W : World} {own : Nat → Prop} {p lim : Nat} {L : List Nd} {r : Int} (m : Nat) (h : Arena W own p lim L) (hr : ¬ (0 ≤ r ∧ r < (L.length : Int))) : CallsIn Fence.wide m Try.prog 56 #[.pointer (some ⟨p, 0, none⟩), .int .i64 r] W (RetGetN W) := callsIn_wide.2 (arena_getN h hr)
theorem get_in {W : World} {own : Nat → Prop} {p lim k : Nat} {L : List Nd} {x1 x2 x3 : Int} (m : Nat) (h : Arena W own p lim L) (hx : L[k]? = some (x1, x2, x3)) : CallsIn Fence.wide m Try.prog 56 #[.pointer (some ⟨p, 0, none⟩), .int .i64 (k : Int)] W (RetGetS x1 x2 x3 W) := callsIn_wide.2 (arena_get h hx)
set_option maxRecDepth 100000 in
set_option maxHeartbeats 1600000 in
theorem ways_end {own : Nat → Prop} {p lim : Nat} {L : List Nd} {r : Int} (hr : ¬ (0 ≤ r ∧ r < (L.length : Int))) : IterOK own p lim L r := by
  intro m ba bf l W J S hA ha hf hfar hJ h0 hY
  rw [ways_out hr] at hY ⊢
  have hb1 := (Below.refl W.heap.size W).alloc (Nat.le_refl _) (.cells #[.func (.yield l) #[] #[]] 97)
  have hby := Blk.new W 97 #[.func (.yield l) #[] #[]]
  obtain ⟨W1, hW1⟩ : ∃ W1, W.alloc (.cells #[.func (.yield l) #[] #[]] 97) = W1 := ⟨_, rfl⟩
  obtain ⟨by_, hby_⟩ : ∃ b, W.heap.size = b := ⟨_, rfl⟩
  rw [hW1] at hb1 hby
  rw [hby_] at hby
  have c0 : W1.cell? ⟨ba, 0, none⟩ = some (.pointer (some ⟨p, 0, none⟩)) := (ha.below hb1 ha.lt).cell 0
  have c1 : W1.cell? ⟨bf, 0, none⟩ = some (.int .i64 r) := (hf.below hb1 hf.lt).cell 0
  have HG := Lib.hid (fun m => getN_in m (hA.below hb1) hr)
  have HY : Hid (∀ w2, Below W1.heap.size W1 w2 → w2.cell? ⟨by_, 0, none⟩ = some (.func (.yield l) #[] #[]) ∧ w2.cell? ⟨bf, 0, none⟩ = some (.int .i64 r) ∧ YieldAt Fence.wide m Try.prog l #[.agg #[.int .u64 0, .int .u64 0], .int .i64 r] w2 fun e W' => e = .returned (.bool true) ∧ Gave J [((0, 0), r)] S W (.returned (.bool true)) W') := Lib.hid fun w2 hw => by
    have hb2 := hb1.trans (hw.mono hb1.size)
    refine ⟨(hby.below hw hby.lt).cell 0, (hf.below hb2 hf.lt).cell 0, YieldAt.mono (hY m [] ((0, 0), r) S w2 (hJ.1 _ _ _ _ h0 (Only.of_below hb2 _)) (by simp)) ?_⟩
    rintro e W' ⟨rfl, S', h1, h2⟩
    exact ⟨rfl, ⟨_, rfl⟩, S', h1, (show Step S W S w2 from ⟨Only.of_below hb2 _, fun _ h => .inl h⟩).trans h2⟩
  clear hA ha hf hfar hJ h0 hY hb1 hby
  refine callsIn_of_wp Try.func62 rfl trivial ?_ rfl
  simp only [Try.ntmps62, List.size_toArray, List.length_cons, List.length_nil, Nat.reduceAdd, Nat.reduceSub, Array.replicate_succ, Array.replicate_zero, List.push_toArray, List.append_toArray, List.nil_append, List.cons_append]
  gi_wp2_with (first
    | (refine ⟨trivial, (fun h => by cases h), ?_⟩; (with_reducible refine (HG.out _).mono ?_); rintro e w2 ⟨rfl, hb2⟩; have H2 := Lib.hid (hb2.alloc hb2.size (.cells #[.int .i64 0, .int .i64 0, .int .i64 0] 78)); clear hb2; obtain ⟨c2, c3, fn, tmps, assign, body, hy, hR⟩ := HY.out _ H2.out)
    | (refine ⟨(fun h => by cases h), ?_⟩; refine (round_any hR).mono ?_; rintro e w3 ⟨rfl, h3⟩))
  refine bodyPost_ret (results_none rfl _ _ _) rfl ?_
  exact ⟨⟨_, rfl⟩, h3.2⟩
theorem ways_in {p : Nat} (m : Nat) (r : Int) (W : World) : CallsIn Fence.wide m Try.prog 45 #[.pointer (some ⟨p, 0, none⟩), .int .i64 r] W fun e w' => e = .returned (.func (.func 62) #[] #[.pointer (some ⟨W.heap.size, 0, none⟩), .pointer (some ⟨W.heap.size + 1, 0, none⟩)]) ∧ w' = (W.alloc (.cells #[.pointer (some ⟨p, 0, none⟩)] 24)).alloc (.cells #[.int .i64 r] 3) := by
  refine callsIn_of_wp Try.func45 rfl trivial ?_ rfl
  simp only [Try.ntmps45, List.size_toArray, List.length_cons, List.length_nil, Nat.reduceAdd, Nat.reduceSub, Array.replicate_succ, Array.replicate_zero, List.push_toArray, List.append_toArray, List.nil_append, List.cons_append]
  gi_wp2
  go_ret
  exact ⟨rfl, rfl⟩
theorem pow_lt {v : Nat} (hv : v < 12) : 2 ^ v < 18446744073709551616 := Nat.lt_of_le_of_lt (Nat.pow_le_pow_right (by omega) (show v ≤ 12 by omega)) (by omega)
theorem or_bit {a v : Nat} (ha : a < 4096) (hv : v < 12) : bits .or .u64 (a : Int) (IntKind.u64.wrap (2 ^ v)) = ((a ||| 1 <<< v : Nat) : Int) := by
  have hp := pow_lt hv
  have e : ((2 : Int) ^ v) = ((2 ^ v : Nat) : Int) := by rw [Int.natCast_pow]; rfl
  have e2 : IntKind.u64.wrap (((2 ^ v : Nat) : Int)) = ((2 ^ v : Nat) : Int) := by
    rw [IntKind.wrap_u64]
    obtain ⟨q, hq⟩ : ∃ q, 2 ^ v = q := ⟨_, rfl⟩
    rw [hq] at hp ⊢
    omega
  rw [e, e2, bits_or_u64_nat a (2 ^ v) (by omega) hp, Nat.one_shiftLeft]
theorem or_bit0 {a v : Nat} (ha : a < 4096) : bits .or .u64 (a : Int) (IntKind.u64.wrap (IntKind.u64.wrap 0 * 2 ^ v)) = ((a ||| 0 <<< v : Nat) : Int) := by
  have e : IntKind.u64.wrap (IntKind.u64.wrap 0 * 2 ^ v) = ((0 : Nat) : Int) := by
    rw [show IntKind.u64.wrap 0 = 0 by rw [IntKind.wrap_u64]; rfl, Int.zero_mul, IntKind.wrap_u64]; rfl
  rw [e, bits_or_u64_nat a 0 (by omega) (by omega), Nat.zero_shiftLeft]
theorem or_bit1 {a v : Nat} (ha : a < 4096) (hv : v < 12) : bits .or .u64 (a : Int) (IntKind.u64.wrap (IntKind.u64.wrap 1 * 2 ^ v)) = ((a ||| 1 <<< v : Nat) : Int) := by
  rw [show IntKind.u64.wrap 1 = 1 by rw [IntKind.wrap_u64]; rfl, Int.one_mul]
  exact or_bit ha hv
theorem only_less {S T : Nat → Prop} {W W' : World} (h : Only S W W') (hs : ∀ k, S k → T k ∨ ∃ o, W.heap[k]? = some o ∧ W'.heap[k]? = some o) : Only T W W' :=
  ⟨h.1, h.2.1, h.2.2.1, h.2.2.2.1, fun i hi hn => by
    by_cases hS : S i
    · rcases hs i hS with ht | ⟨o, h1, h2⟩
      · exact absurd ht hn
      · rw [h1, h2]
    · exact h.2.2.2.2 i hi hS⟩
/-- A node's loop over the ways of one of its children: each is handed on, with the node's own bit. -/
theorem child_law {own : Nat → Prop} {p lim : Nat} {L : List Nd} {c v : Int} (IH : IterOK own p lim L c) {n : Nat} {g : Operand} {ps : Array Tmp} {assign body : Code} {Q : Exit → Act → World → Prop} {a : Act} {w : World}
    {T : Nat → Prop} {done rest : List Way} {j by_ nb bb ba bf l0 : Nat} {J : List Way → (Nat → Prop) → World → Prop} {yv x1 x2 x3 jv : Value}
    (hg : a.eval g = .func (.func 62) #[] #[.pointer (some ⟨ba, 0, none⟩), .pointer (some ⟨bf, 0, none⟩)]) (hps : 2 = ps.size)
    (hA : Arena w own p lim L) (ha : Blk w ba 24 #[.pointer (some ⟨p, 0, none⟩)]) (hf : Blk w bf 3 #[.int .i64 c])
    (hJ : Stays J) (h0 : J done T w) (hT : ∀ k, T k → ¬ own k ∧ k ≠ ba ∧ k ≠ bf ∧ k ≠ by_ ∧ k ≠ nb ∧ k ≠ bb)
    (hby : Blk w by_ 97 #[yv]) (hnb : Blk w nb 78 #[x1, x2, x3]) (hbb : Blk w bb 3 #[jv])
    (ho : ∀ k, k = by_ ∨ k = nb ∨ k = bb → ¬ own k ∧ k ≠ ba ∧ k ≠ bf)
    (hY : Rounds Try.prog l0 encW J (done ++ (waysL L c).map (extW v j) ++ rest))
    (sc se : Nat)
    (hassign : ∀ (l m : Nat) (x : Way) (W : World) (K : Act → World → Prop), K { tmps := ((((ps.zip (encW x)).foldl (fun t (p, v) => t.setIfInBounds p v) a.tmps).setIfInBounds sc (.pointer (some ⟨W.heap.size, 0, none⟩))).setIfInBounds se (.int .i64 x.2)), defers := [] } (W.alloc (.cells #[.int .u64 (x.1.1 : Int), .int .u64 (x.1.2 : Int)] 51)) → assign.wpIn (Fence.wide.inRound l) m Try.prog (Exit.then K (fun _ _ _ => False)) { tmps := (ps.zip (encW x)).foldl (fun t (p, v) => t.setIfInBounds p v) a.tmps, defers := [] } W)
    (hbody : ∀ (l m : Nat) (x : Way) (W : World) (bx : Nat) (PP : World → Prop), x ∈ waysL L c → Blk W by_ 97 #[yv] → Blk W nb 78 #[x1, x2, x3] → Blk W bb 3 #[jv] → Blk W bx 51 #[.int .u64 (x.1.1 : Int), .int .u64 (x.1.2 : Int)] →
      (∀ m' w2, Below W.heap.size W w2 → YieldAt Fence.wide m' Try.prog l0 (encW (extW v j x)) w2 fun e W' => e = .returned (.bool true) ∧ PP W') → (∀ W1 W2, PP W1 → Below W1.heap.size W1 W2 → PP W2) →
      body.wpIn (Fence.wide.inRound l) m Try.prog (fun e _ W' => e = .normal ∧ PP W') { tmps := ((((ps.zip (encW x)).foldl (fun t (p, v) => t.setIfInBounds p v) a.tmps).setIfInBounds sc (.pointer (some ⟨bx, 0, none⟩))).setIfInBounds se (.int .i64 x.2)), defers := [] } W)
    (hdone : ∀ (D : Nat) (T' : Nat → Prop) (W' : World), J (done ++ (waysL L c).map (extW v j)) T' W' → Step T w T' W' → Blk W' by_ 97 #[yv] → Blk W' nb 78 #[x1, x2, x3] → w.heap.size ≤ D → ¬ T' D → W'.heap[D]? = some (.deferred (some [])) → Q .normal { a with defers := { target := .collected D, args := #[] } :: a.defers } W') :
    (Code.rangeFunc g ps assign body).wpIn Fence.wide n Try.prog Q a w := by
  have hTl := hJ.2 _ _ _ h0
  refine range_law hg (enters_of Try.func62 (by kernel_rfl) rfl) (encs := encW) (fun x => hps) (waysL L c) (fun k => T k ∨ k = by_ ∨ k = nb ∨ k = bb)
    (fun pre T1 W => ∃ T0 : Nat → Prop, J (done ++ pre.map (extW v j)) T0 W ∧ (∀ k, T1 k ↔ T0 k ∨ k = by_ ∨ k = nb ∨ k = bb) ∧ (¬ T0 by_ ∧ ¬ T0 nb ∧ ¬ T0 bb) ∧ Blk W by_ 97 #[yv] ∧ Blk W nb 78 #[x1, x2, x3] ∧ Blk W bb 3 #[jv])
    ⟨?_, ?_⟩ ⟨T, by simpa using h0, fun k => Iff.rfl, ⟨fun h => (hT _ h).2.2.2.1 rfl, fun h => (hT _ h).2.2.2.2.1 rfl, fun h => (hT _ h).2.2.2.2.2 rfl⟩, hby, hnb, hbb⟩ ?_ (fun x bx => { tmps := ((((ps.zip (encW x)).foldl (fun t (p, v) => t.setIfInBounds p v) a.tmps).setIfInBounds sc (.pointer (some ⟨bx, 0, none⟩))).setIfInBounds se (.int .i64 x.2)), defers := [] }) (fun x => .cells #[.int .u64 (x.1.1 : Int), .int .u64 (x.1.2 : Int)] 51) hassign ?_ ?_
  · rintro pre T1 W W' ⟨T0, hj, hS, hn, b1, b2, b3⟩ hon
    exact ⟨T0, hJ.1 _ _ _ _ hj (hon.mono fun i hn => .inl fun ht => hn ((hS i).2 (.inl ht))), hS, hn, hon.blk b1 fun h => h ((hS _).2 (.inr (.inl rfl))), hon.blk b2 fun h => h ((hS _).2 (.inr (.inr (.inl rfl)))), hon.blk b3 fun h => h ((hS _).2 (.inr (.inr (.inr rfl))))⟩
  · rintro pre T1 W ⟨T0, hj, hS, hn, b1, b2, b3⟩ k hk
    rcases (hS k).1 hk with h | rfl | rfl | rfl
    · exact hJ.2 _ _ _ hj k h
    · exact b1.lt
    · exact b2.lt
    · exact b3.lt
  · intro m l W1 J1 S1 hb hJ1 hS1 h1 hY1
    refine IH m ba bf l W1 J1 S1 (hA.below hb) (ha.below hb ha.lt) (hf.below hb hf.lt) (fun k hk => ?_) hJ1 h1 hY1
    rcases hS1 k hk with (h | h) | h
    · have := hT k h
      exact ⟨this.1, this.2.1, this.2.2.1⟩
    · exact ho k h
    · exact ⟨fun hw => by have := hA.old k hw; omega, fun e => by have := ha.lt; omega, fun e => by have := hf.lt; omega⟩
  · rintro l m pre x T1 W bx ⟨T0, hj, hS, hn, b1, b2, b3⟩ hpre hbx hnx
    have hx : x ∈ waysL L c := hpre.subset (by simp)
    obtain ⟨tl, htl⟩ := hpre
    have hsub : (done ++ pre.map (extW v j)) ++ [extW v j x] <+: done ++ (waysL L c).map (extW v j) ++ rest := by
      rw [← htl]
      simp
    refine wpIn_mono (hbody l m x W bx (fun W' => ∃ T' : Nat → Prop, J (done ++ (pre ++ [x]).map (extW v j)) T' W' ∧ Step T0 W T' W') hx b1 b2 b3 hbx (fun m' w2 hw => ?_) ?_) ?_
    · refine YieldAt.mono (hY m' _ (extW v j x) T0 w2 (hJ.1 _ _ _ _ hj (Only.of_below hw _)) hsub) ?_
      rintro e W' ⟨rfl, T', h1, h2⟩
      exact ⟨rfl, T', by simpa using h1, (show Step T0 W T0 w2 from ⟨Only.of_below hw _, fun _ h => .inl h⟩).trans h2⟩
    · rintro W1 W2 ⟨T', h1, h2⟩ hb
      exact ⟨T', hJ.1 _ _ _ _ h1 (Only.of_below hb _), h2.trans ⟨Only.of_below hb _, fun _ h => .inl h⟩⟩
    · rintro e a' W' ⟨rfl, T', h1, h2, h3⟩
      have nb' : ∀ k, k < W.heap.size → ¬ T0 k → ¬ T' k := fun k hk h h' => (h3 k h').elim h fun g => by omega
      refine ⟨rfl, fun k => T' k ∨ k = by_ ∨ k = nb ∨ k = bb, ⟨T', h1, fun k => Iff.rfl, ⟨nb' _ b1.lt hn.1, nb' _ b2.lt hn.2.1, nb' _ b3.lt hn.2.2⟩, h2.blk b1 hn.1, h2.blk b2 hn.2.1, h2.blk b3 hn.2.2⟩, h2.mono fun i h => .inl ((hS i).2 (.inl h)), ?_⟩
      rintro k (h | h)
      · rcases h3 k h with h | h
        · exact .inl ((hS k).2 (.inl h))
        · exact .inr h
      · exact .inl ((hS k).2 (.inr h))
  · rintro D T1 W' ⟨T0, hj, hS, hn, b1, b2, b3⟩ ⟨hs1, hs2⟩ hD hTD hdef
    refine hdone D T0 W' hj ⟨only_less hs1 ?_, ?_⟩ b1 b2 hD (fun h => hTD ((hS _).2 (.inl h))) hdef
    · rintro k (h | rfl | rfl | rfl)
      · exact .inl h
      · exact .inr ⟨_, hby, b1⟩
      · exact .inr ⟨_, hnb, b2⟩
      · exact .inr ⟨_, hbb, b3⟩
    · intro k hk
      rcases hs2 k ((hS k).2 (.inl hk)) with (h | rfl | rfl | rfl) | h
      · exact .inl h
      · exact absurd hk hn.1
      · exact absurd hk hn.2.1
      · exact absurd hk hn.2.2
      · exact .inr h
set_option maxRecDepth 100000 in
set_option maxHeartbeats 3200000 in
theorem ways_node_ok {own : Nat → Prop} {p lim : Nat} {L : List Nd} (hR : RightL L) {k : Nat} {x1 x2 x3 : Int} (hx : L[k]? = some (x1, x2, x3)) (ih2 : IterOK own p lim L x2) (ih3 : IterOK own p lim L x3) : IterOK own p lim L (k : Int) := by
  intro m ba bf l0 W J S hA ha hf hfar hJ h0 hY
  rw [ways_node hR hx] at hY ⊢
  have hb1 := (Below.refl W.heap.size W).alloc (Nat.le_refl _) (.cells #[.func (.yield l0) #[] #[]] 97)
  have hby := Blk.new W 97 #[.func (.yield l0) #[] #[]]
  obtain ⟨W1, hW1⟩ : ∃ W1, W.alloc (.cells #[.func (.yield l0) #[] #[]] 97) = W1 := ⟨_, rfl⟩
  obtain ⟨by_, hby_⟩ : ∃ b, W.heap.size = b := ⟨_, rfl⟩
  rw [hW1] at hb1 hby
  rw [hby_] at hby
  have c0 : W1.cell? ⟨ba, 0, none⟩ = some (.pointer (some ⟨p, 0, none⟩)) := (ha.below hb1 ha.lt).cell 0
  have c1 : W1.cell? ⟨bf, 0, none⟩ = some (.int .i64 (k : Int)) := (hf.below hb1 hf.lt).cell 0
  have HG := Lib.hid (fun m => get_in m (hA.below hb1) hx)
  have hx0 := hx
  obtain ⟨v, rfl⟩ : ∃ v : Nat, x1 = (v : Int) := ⟨x1.toNat, by have := (hR.1 _ _ hx).1; dsimp only at this; omega⟩
  have hv : v < 12 := by have := (hR.1 _ _ hx).1; dsimp only at this; omega
  have p0 := pick_0
  have p1 := pick_1
  refine callsIn_of_wp_marks Try.func62 rfl trivial ?_ rfl
  simp only [Try.ntmps62, List.size_toArray, List.length_cons, List.length_nil, Nat.reduceAdd, Nat.reduceSub, Array.replicate_succ, Array.replicate_zero, List.push_toArray, List.append_toArray, List.nil_append, List.cons_append]
  gi_wp2_with (first
    | (refine ⟨trivial, (fun h => by cases h), ?_⟩; (with_reducible refine (HG.out _).mono ?_); rintro e w2 ⟨rfl, hb2⟩; have hs2 := hb2.size; have H2 := Lib.hid (hb2.alloc hb2.size (.cells #[.int .i64 (v : Int), .int .i64 x2, .int .i64 x3] 78)); clear hb2))
  have hB2 := hb1.trans (H2.out.mono hb1.size)
  have hnb := Blk.new w2 78 #[.int .i64 (v : Int), .int .i64 x2, .int .i64 x3]
  have hby2 := hby.below H2.out hby.lt
  have hlt0 : by_ < w2.heap.size := by have := hby.lt; omega
  obtain ⟨V0, hV0⟩ : ∃ V0, w2.alloc (.cells #[.int .i64 (v : Int), .int .i64 x2, .int .i64 x3] 78) = V0 := ⟨_, rfl⟩
  obtain ⟨nb, hnb_⟩ : ∃ b, w2.heap.size = b := ⟨_, rfl⟩
  rw [hV0] at hB2 hnb hby2 ⊢
  rw [hnb_] at hnb hlt0 ⊢
  have hA0 := hA.below hB2
  have ha0 := ha.below hB2 ha.lt
  have hj0 := hJ.1 _ _ _ _ h0 (Only.of_below hB2 _)
  have hSl := hJ.2 _ _ _ h0
  have hOl := hA.old
  have hal := ha.lt
  have hst0 : Step S W S V0 := ⟨Only.of_below hB2 _, fun _ h => .inl h⟩
  have hT0 : ∀ k, S k → ¬ own k ∧ k ≠ ba ∧ k ≠ by_ ∧ k ≠ nb := fun k hk => ⟨(hfar k hk).1, (hfar k hk).2.1, by have := hSl k hk; omega, by have := hSl k hk; omega⟩
  clear H2 HG c0 c1 hV0 hs2 hj0
  have hj0 : J [] S V0 := hJ.1 _ _ _ _ h0 (Only.of_below hB2 _)
  refine wpIn_loop_rounds 3 ?_
  rw [roundsIn_succ]
  have c2_0 : (V0.alloc (.cells #[.int .i64 0] 3)).cell? ⟨ba, 0, none⟩ = some (.pointer (some ⟨p, 0, none⟩)) := (ha0.up _).cell 0
  gi_wp2_with (first
    | (refine ⟨trivial, (fun h => by cases h), ?_⟩; (with_reducible refine (ways_in _ _ _).mono ?_); rintro e w3 ⟨rfl, rfl⟩))
  have hBa0 := ((Below.refl V0.heap.size V0).alloc (Nat.le_refl _) (.cells #[.int .i64 0] 3))
  have hBb0 := (hBa0.alloc hBa0.size (.cells #[.pointer (some ⟨p, 0, none⟩)] 24))
  have hBc0 := (hBb0.alloc hBb0.size (.cells #[.int .i64 x2] 3))
  have hbb0 := ((Blk.new V0 3 #[.int .i64 0]).up (.cells #[.pointer (some ⟨p, 0, none⟩)] 24)).up (.cells #[.int .i64 x2] 3)
  have hba0 := (Blk.new_ (size_up (rfl : V0.heap.size = V0.heap.size) (.cells #[.int .i64 0] 3)) 24 #[.pointer (some ⟨p, 0, none⟩)]).up (.cells #[.int .i64 x2] 3)
  have hbf0 := Blk.new_ (size_up (size_up (rfl : V0.heap.size = V0.heap.size) (.cells #[.int .i64 0] 3)) (.cells #[.pointer (some ⟨p, 0, none⟩)] 24)) 3 #[.int .i64 x2]
  have hTl0 := hJ.2 _ _ _ hj0
  have hyl0 := hby2.lt
  have hnl0 := hnb.lt
  refine child_law (v := (v : Int)) (j := 0) (done := []) (rest := (waysL L x3).map (extW (v : Int) 1)) (T := S) (by_ := by_) (nb := nb) (bb := V0.heap.size) (ba := V0.heap.size + 1) (bf := V0.heap.size + 1 + 1) (l0 := l0) (J := J) (yv := .func (.yield l0) #[] #[]) (x1 := .int .i64 (v : Int)) (x2 := .int .i64 x2) (x3 := .int .i64 x3) (jv := .int .i64 0)
    ih2 rfl rfl (hA0.below hBc0) hba0 hbf0 hJ (hJ.1 _ _ _ _ hj0 (Only.of_below hBc0 _)) ?far0 (hby2.below hBc0 hby2.lt) (hnb.below hBc0 hnb.lt) hbb0 ?own0 hY
    8 9 ?assign0 ?body0 ?done0
  case far0 => exact fun k hk => ⟨(hT0 k hk).1, by have := hTl0 k hk; omega, by have := hTl0 k hk; omega, (hT0 k hk).2.2.1, (hT0 k hk).2.2.2, by have := hTl0 k hk; omega⟩
  case own0 =>
    rintro k (rfl | rfl | rfl)
    · exact ⟨fun h => by have := hOl _ h; omega, by omega, by omega⟩
    · exact ⟨fun h => by have := hOl _ h; omega, by omega, by omega⟩
    · exact ⟨fun h => by have := hOl _ h; omega, by omega, by omega⟩
  case assign0 =>
    intro l m x W K hK
    simp [encW] at hK ⊢
    gi_wp2
    exact hK
  case body0 =>
    rintro l m ⟨⟨mk, bs⟩, er⟩ W bx PP hxw b1 b2 b3 b4 hG hPP
    obtain ⟨hm, hbs⟩ := ways_lt hR x2 _ hxw
    have q1 := or_bit hm hv
    have q2 := or_bit0 (v := v) hbs
    have hGx := hG 0 W.drew (Below.refl _ _).drew
    rw [show extW (v : Int) 0 ((mk, bs), er) = ((mk ||| 1 <<< v, bs ||| 0 <<< v), er) from rfl] at hGx
    obtain ⟨M, hM⟩ : ∃ M, mk ||| 1 <<< v = M := ⟨_, rfl⟩
    obtain ⟨B, hB⟩ : ∃ B, bs ||| 0 <<< v = B := ⟨_, rfl⟩
    rw [hM] at q1 hGx
    rw [hB] at q2 hGx
    obtain ⟨fn, tmps, assign, body, hy, hR⟩ := (show YieldAt Fence.wide 0 Try.prog _ #[.agg #[.int .u64 (M : Int), .int .u64 (B : Int)], .int .i64 er] W.drew _ from hGx)
    clear hG hGx hM hB hm hbs hxw
    have d1 : W.drew.cell? ⟨by_, 0, none⟩ = some (.func (.yield l0) #[] #[]) := b1.cell 0
    have d2 : W.drew.cell? ⟨nb, 0, none⟩ = some (.int .i64 (v : Int)) := b2.cell 0
    have d3 : W.drew.cell? ⟨V0.heap.size, 0, none⟩ = some (.int .i64 0) := b3.cell 0
    have d4 : W.drew.cell? ⟨bx, 0, none⟩ = some (.int .u64 (mk : Int)) := b4.cell 0
    have d5 : W.drew.cell? ⟨bx, 1, none⟩ = some (.int .u64 (bs : Int)) := b4.cell 1
    have hmix : Try.prog.follows .mixedOrders = true := by kernel_rfl
    simp [encW]
    refine wpIn_block (wpIn_seq (region_vals 17 53 54 56 [(36, .func (.yield l0) #[] #[]), (37, .pointer (some ⟨bx, 0, none⟩)), (38, .int .u64 (mk : Int)), (39, .pointer (some ⟨nb, 0, none⟩)), (40, .int .i64 (v : Int)), (41, .int .u64 (IntKind.u64.wrap (2 ^ v))), (42, .int .u64 (M : Int)), (43, .pointer (some ⟨bx, 1, none⟩)), (44, .int .u64 (bs : Int)), (45, .int .i64 0), (46, .int .u64 (IntKind.u64.wrap 0)), (47, .pointer (some ⟨nb, 0, none⟩)), (48, .int .i64 (v : Int)), (49, .int .u64 (IntKind.u64.wrap (IntKind.u64.wrap 0 * 2 ^ v))), (50, .int .u64 (B : Int)), (51, .agg #[.int .u64 (M : Int), .int .u64 (B : Int)]), (52, .int .i64 er), (53, .bool true), (54, .bool false)] (PP := PP) (.bool true) (.bool false)
      hmix rfl rfl rfl (by kernel_rfl) (by kernel_rfl) (Nat.le_refl _) (by kernel_rfl) (by kernel_rfl) rfl rfl (by kernel_rfl) (by kernel_rfl) (by kernel_rfl) (by kernel_rfl) rfl rfl ?val0 (l := l0) (fn := fn) (tmps := tmps) (assign := assign) (body := body) ?run0 ?rnd0 ?val20 ?fin0))
    case run0 => go_simp
    case rnd0 => exact fun m => round_any hR
    case val0 =>
      rename_i K0 hK0
      clear hK0 hR hPP hx hx0 hY ih2 ih3 hA hA0 hfar hJ h0 hj0 hSl ha hf ha0 hby hby2 hnb hb1 hB2 b1 b2 b3 b4 p0 p1 hy
      intro i o d hi ho hd
      rcases (show i = 0 ∨ i = 1 ∨ i = 2 ∨ i = 3 ∨ i = 4 ∨ i = 5 ∨ i = 6 ∨ i = 7 ∨ i = 8 ∨ i = 9 ∨ i = 10 ∨ i = 11 ∨ i = 12 ∨ i = 13 ∨ i = 14 ∨ i = 15 ∨ i = 16 by omega) with rfl | rfl | rfl | rfl | rfl | rfl | rfl | rfl | rfl | rfl | rfl | rfl | rfl | rfl | rfl | rfl | rfl
      all_goals
        cases ho
        cases hd
        go_simp
    case val20 =>
      intro W'
      go_simp
    case fin0 => exact fun A W' hA h54 hp => wpIn_cond_false h54 (wpIn_skip ⟨rfl, hp⟩)
  case done0 =>
    intro D1 T1 V1 hj1 hst hby1 hnb1 hD1 hTD1 hdef1
    have hsz0 := hBc0.size
    have hw4 : W.heap.size ≤ V0.heap.size := hB2.size
    have hst1 : Step S W T1 V1 := hst0.trans ((show Step S V0 S _ from ⟨Only.of_below hBc0 _, fun _ h => .inl h⟩).trans hst)
    have hA1 : Arena V1 own p lim L := (hA0.below hBc0).only hst.1 fun i hi hS => (hfar i hS).1 hi
    have ha1 : Blk V1 ba 24 #[.pointer (some ⟨p, 0, none⟩)] := hst.1.blk (ha0.below hBc0 ha0.lt) fun hS => (hfar _ hS).2.1 rfl
    have hT1 : ∀ k, T1 k → ¬ own k ∧ k ≠ ba ∧ k ≠ by_ ∧ k ≠ nb := fun k hk => by
      rcases hst.2 k hk with h | h
      · exact hT0 k h
      · have hOk := hOl k
        exact ⟨fun ho => by have := hOk ho; omega, by omega, by omega, by omega⟩
    have hDW : W.heap.size ≤ D1 := by omega
    have hj1 : J ((waysL L x2).map (extW (v : Int) 0)) T1 V1 := by simpa using hj1
    clear hst
    gi_wp2
    rw [roundsIn_succ]
    have c2_1 : (V1.alloc (.cells #[.int .i64 1] 3)).cell? ⟨ba, 0, none⟩ = some (.pointer (some ⟨p, 0, none⟩)) := (ha1.up _).cell 0
    gi_wp2_with (first
      | (refine ⟨trivial, (fun h => by cases h), ?_⟩; (with_reducible refine (ways_in _ _ _).mono ?_); rintro e w3 ⟨rfl, rfl⟩))
    have hBa1 := ((Below.refl V1.heap.size V1).alloc (Nat.le_refl _) (.cells #[.int .i64 1] 3))
    have hBb1 := (hBa1.alloc hBa1.size (.cells #[.pointer (some ⟨p, 0, none⟩)] 24))
    have hBc1 := (hBb1.alloc hBb1.size (.cells #[.int .i64 x3] 3))
    have hbb1 := ((Blk.new V1 3 #[.int .i64 1]).up (.cells #[.pointer (some ⟨p, 0, none⟩)] 24)).up (.cells #[.int .i64 x3] 3)
    have hba1 := (Blk.new_ (size_up (rfl : V1.heap.size = V1.heap.size) (.cells #[.int .i64 1] 3)) 24 #[.pointer (some ⟨p, 0, none⟩)]).up (.cells #[.int .i64 x3] 3)
    have hbf1 := Blk.new_ (size_up (size_up (rfl : V1.heap.size = V1.heap.size) (.cells #[.int .i64 1] 3)) (.cells #[.pointer (some ⟨p, 0, none⟩)] 24)) 3 #[.int .i64 x3]
    have hTl1 := hJ.2 _ _ _ hj1
    have hyl1 := hby1.lt
    have hnl1 := hnb1.lt
    refine child_law (v := (v : Int)) (j := 1) (done := (waysL L x2).map (extW (v : Int) 0)) (rest := []) (T := T1) (by_ := by_) (nb := nb) (bb := V1.heap.size) (ba := V1.heap.size + 1) (bf := V1.heap.size + 1 + 1) (l0 := l0) (J := J) (yv := .func (.yield l0) #[] #[]) (x1 := .int .i64 (v : Int)) (x2 := .int .i64 x2) (x3 := .int .i64 x3) (jv := .int .i64 1)
      ih3 rfl rfl (hA1.below hBc1) hba1 hbf1 hJ (hJ.1 _ _ _ _ hj1 (Only.of_below hBc1 _)) ?far1 (hby1.below hBc1 hby1.lt) (hnb1.below hBc1 hnb1.lt) hbb1 ?own1 (by rw [List.append_nil]; exact hY)
      8 9 ?assign1 ?body1 ?done1
    case far1 => exact fun k hk => ⟨(hT1 k hk).1, by have := hTl1 k hk; omega, by have := hTl1 k hk; omega, (hT1 k hk).2.2.1, (hT1 k hk).2.2.2, by have := hTl1 k hk; omega⟩
    case own1 =>
      rintro k (rfl | rfl | rfl)
      · exact ⟨fun h => by have := hOl _ h; omega, by omega, by omega⟩
      · exact ⟨fun h => by have := hOl _ h; omega, by omega, by omega⟩
      · exact ⟨fun h => by have := hOl _ h; omega, by omega, by omega⟩
    case assign1 =>
      intro l m x W K hK
      simp [encW] at hK ⊢
      gi_wp2
      exact hK
    case body1 =>
      rintro l m ⟨⟨mk, bs⟩, er⟩ W bx PP hxw b1 b2 b3 b4 hG hPP
      obtain ⟨hm, hbs⟩ := ways_lt hR x3 _ hxw
      have q1 := or_bit hm hv
      have q2 := or_bit1 hbs hv
      have hGx := hG 0 W.drew (Below.refl _ _).drew
      rw [show extW (v : Int) 1 ((mk, bs), er) = ((mk ||| 1 <<< v, bs ||| 1 <<< v), er) from rfl] at hGx
      obtain ⟨M, hM⟩ : ∃ M, mk ||| 1 <<< v = M := ⟨_, rfl⟩
      obtain ⟨B, hB⟩ : ∃ B, bs ||| 1 <<< v = B := ⟨_, rfl⟩
      rw [hM] at q1 hGx
      rw [hB] at q2 hGx
      obtain ⟨fn, tmps, assign, body, hy, hR⟩ := (show YieldAt Fence.wide 0 Try.prog _ #[.agg #[.int .u64 (M : Int), .int .u64 (B : Int)], .int .i64 er] W.drew _ from hGx)
      clear hG hGx hM hB hm hbs hxw
      have d1 : W.drew.cell? ⟨by_, 0, none⟩ = some (.func (.yield l0) #[] #[]) := b1.cell 0
      have d2 : W.drew.cell? ⟨nb, 0, none⟩ = some (.int .i64 (v : Int)) := b2.cell 0
      have d3 : W.drew.cell? ⟨V1.heap.size, 0, none⟩ = some (.int .i64 1) := b3.cell 0
      have d4 : W.drew.cell? ⟨bx, 0, none⟩ = some (.int .u64 (mk : Int)) := b4.cell 0
      have d5 : W.drew.cell? ⟨bx, 1, none⟩ = some (.int .u64 (bs : Int)) := b4.cell 1
      have hmix : Try.prog.follows .mixedOrders = true := by kernel_rfl
      simp [encW]
      refine wpIn_block (wpIn_seq (region_vals 17 53 54 56 [(36, .func (.yield l0) #[] #[]), (37, .pointer (some ⟨bx, 0, none⟩)), (38, .int .u64 (mk : Int)), (39, .pointer (some ⟨nb, 0, none⟩)), (40, .int .i64 (v : Int)), (41, .int .u64 (IntKind.u64.wrap (2 ^ v))), (42, .int .u64 (M : Int)), (43, .pointer (some ⟨bx, 1, none⟩)), (44, .int .u64 (bs : Int)), (45, .int .i64 1), (46, .int .u64 (IntKind.u64.wrap 1)), (47, .pointer (some ⟨nb, 0, none⟩)), (48, .int .i64 (v : Int)), (49, .int .u64 (IntKind.u64.wrap (IntKind.u64.wrap 1 * 2 ^ v))), (50, .int .u64 (B : Int)), (51, .agg #[.int .u64 (M : Int), .int .u64 (B : Int)]), (52, .int .i64 er), (53, .bool true), (54, .bool false)] (PP := PP) (.bool true) (.bool false)
        hmix rfl rfl rfl (by kernel_rfl) (by kernel_rfl) (Nat.le_refl _) (by kernel_rfl) (by kernel_rfl) rfl rfl (by kernel_rfl) (by kernel_rfl) (by kernel_rfl) (by kernel_rfl) rfl rfl ?val1 (l := l0) (fn := fn) (tmps := tmps) (assign := assign) (body := body) ?run1 ?rnd1 ?val21 ?fin1))
      case run1 => go_simp
      case rnd1 => exact fun m => round_any hR
      case val1 =>
        rename_i K0 hK0
        clear hK0 hR hPP hx hx0 hY ih2 ih3 hA hA0 hfar hJ h0 hj0 hSl ha hf ha0 hby hby2 hnb hb1 hB2 b1 b2 b3 b4 p0 p1 hy
        intro i o d hi ho hd
        rcases (show i = 0 ∨ i = 1 ∨ i = 2 ∨ i = 3 ∨ i = 4 ∨ i = 5 ∨ i = 6 ∨ i = 7 ∨ i = 8 ∨ i = 9 ∨ i = 10 ∨ i = 11 ∨ i = 12 ∨ i = 13 ∨ i = 14 ∨ i = 15 ∨ i = 16 by omega) with rfl | rfl | rfl | rfl | rfl | rfl | rfl | rfl | rfl | rfl | rfl | rfl | rfl | rfl | rfl | rfl | rfl
        all_goals
          cases ho
          cases hd
          go_simp
      case val21 =>
        intro W'
        go_simp
      case fin1 => exact fun A W' hA h54 hp => wpIn_cond_false h54 (wpIn_skip ⟨rfl, hp⟩)
    case done1 =>
      intro D2 T2 V2 hj2 hst hby3 hnb3 hD2 hTD2 hdef2
      have hsz1 := hBc1.size
      have hst2 : Step S W T2 V2 := hst1.trans ((show Step T1 V1 T1 _ from ⟨Only.of_below hBc1 _, fun _ h => .inl h⟩).trans hst)
      have hdef1' : V2.heap[D1]? = some (.deferred (some [])) := hst.1.same ((Only.of_below hBc1 (fun _ => False)).same hdef1 id) hTD1
      have hDl := heap_lt hdef1
      have hne : D1 ≠ D2 := by omega
      have hTD1' : ¬ T2 D1 := fun h => (hst.2 _ h).elim hTD1 fun g => by omega
      clear hst
      gi_wp2
      rw [roundsIn_succ]
      gi_wp2
      refine ⟨by simp, .inl ⟨_, _, rfl, run_takeDeferred hdef2, ?_⟩⟩
      refine ⟨by simp, .inl ⟨_, _, rfl, run_takeDeferred ((World.putObj_heap_other hne).trans hdef1'), ?_⟩⟩
      have ho2 : Only (fun k => k = D2 ∨ k = D1) V2 ((V2.putObj D2 (.deferred none)).putObj D1 (.deferred none)) := (only_put V2 _ (.inl rfl)).trans (own1 := fun k => k = D2 ∨ k = D1) (only_put _ _ (.inr rfl)) fun _ h => .inl h
      refine ⟨_, results_none rfl _ _ _, ⟨_, rfl⟩, T2, hJ.1 _ _ _ _ hj2 (ho2.mono ?_), hst2.1.trans ho2 ?_, hst2.2⟩
      · rintro i (rfl | rfl)
        · exact .inl hTD2
        · exact .inl hTD1'
      · rintro i (rfl | rfl)
        · exact .inr (by have := hB2.size; have := hst1.1.size; omega)
        · exact .inr hDW
theorem iter_ok {own : Nat → Prop} {p lim : Nat} {L : List Nd} (hR : RightL L) : ∀ r, IterOK own p lim L r := by
  refine down hR (fun r hr => ways_end hr) fun k x hx _ _ h2 h3 => ?_
  obtain ⟨x1, x2, x3⟩ := x
  exact ways_node_ok hR hx h2 h3
end Go.Proofs.Ytcolinjgfcjimaa
