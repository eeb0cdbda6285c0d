/- The tree layer: what an argument holds that is an expression; that is a row of statements. -/
import Derived.Test.YteaongdlbleehaaDoorRows
import Derived.Test.YteaongdlbleehaaDoorGTrPg
import Derived.ProofKit
import Derived.LaidMore
import Derived.OpenShut
import Derived.Lib.SmallJoins
import Derived.Deep.Slices
import Derived.Deep.Fields
import Derived.ChangeSame
import Derived.ChangeMaps5
namespace Go.Proofs.YteaongdlbleehaaDoor
open Go.ChangeShapes Go.WideShapes Go.ChangeAt Go.RowKit Go.Joins Go.ChangeMaps

theorem own : ownKnob Tryd.prog.godebug = none := by kernel_rfl
theorem laidOut : laidOutB Tryd.prog = true := by kernel_rfl
theorem cellsInt : Tryd.prog.cellsOf 3 = 1 := by kernel_rfl
theorem cellsStr : Tryd.prog.cellsOf 9 = 1 := by kernel_rfl
theorem bulk_part {H : Type} {d : DataW H} {l : List (DataW H)} (h : d ∈ l) : Rows.uptoBulk d ≤ Rows.uptoBulkAll l := by
  induction l with
  | nil => cases h
  | cons x r ih =>
    simp only [Rows.uptoBulkAll]
    cases List.mem_cons.1 h with
    | inl e => subst e; omega
    | inr e => have := ih e; omega
theorem bulk_one {H : Type} (d : DataW H) : 1 ≤ Rows.uptoBulk d := by
  cases d with
  | lit l => cases l <;> simp [Rows.uptoBulk]
  | nil => simp [Rows.uptoBulk]
  | ptr d => simp [Rows.uptoBulk]
  | slice elems spare => simp [Rows.uptoBulk]
  | agg parts => simp [Rows.uptoBulk]
  | iface t d => simp [Rows.uptoBulk]
  | map entries => simp [Rows.uptoBulk]
  | held h => simp [Rows.uptoBulk]
/-- What a row's members cost, they weigh. -/
theorem cost_bulk {α H : Type} (cost : α → Nat) : ∀ (l : List α) (r : List (DataW H)), l.length = r.length → (∀ (i : Nat) (x : α) (y : DataW H), l[i]? = some x → r[i]? = some y → cost x ≤ Rows.uptoBulk y) → sumF cost l ≤ Rows.uptoBulkAll r := by
  intro l
  induction l with
  | nil => intro r _ _; exact Nat.zero_le _
  | cons x l ih =>
    intro r hr h
    cases r with
    | nil => cases hr
    | cons y r =>
      simp only [sumF, Rows.uptoBulkAll]
      have h1 := h 0 x y rfl rfl
      have h2 := ih r (by simpa using hr) (fun i x' y' hx hy => h (i + 1) x' y' (by simpa using hx) (by simpa using hy))
      omega
theorem plain_add (b off k : Nat) : (⟨b, off, none⟩ : Addr).add k = ⟨b, off + k, none⟩ := by simp [Addr.add]
section
variable {H : Type} {enc : TypeId × Value → H} {W : World} {base : Nat} {sp : Nat → Bool} {held : Bool}
/-- A row of anything. -/
theorem row_gen {α : Type} [Inhabited α] {t e : TypeId} (c : Nat) (hc : 0 < c) (cost : α → Nat) (B : Nat) (K : Nat → α → List Value → Prop) (hK : ∀ n x cs, K n x cs → cs.length = c) (ht : Tryd.prog.underlying t = some (.slice e)) (hce : Tryd.prog.cellsOf e = c)
    {n : Nat} {v : Value} {x : DataW H × List MemPlace} (h : DataW.trod enc Tryd.prog W base sp held n t [v] = some x) (hB : Rows.uptoBulk x.1 ≤ B)
    (hel : ∀ m cs y, m < n → DataW.trod enc Tryd.prog W base sp held m e cs = some y → Rows.uptoBulk y.1 ≤ B → ∃ z : α, K m z cs ∧ cost z ≤ Rows.uptoBulk y.1) :
    ∃ (m : Nat) (l : List α) (A : Option Addr) (cap : Nat), m + 1 = n ∧ v = .slice A l.length cap ∧ l.length ≤ cap ∧
      (∀ (i : Nat) (z : α), l[i]? = some z → ∃ b off cs, A = some ⟨b, off, none⟩ ∧ b < W.heap.size ∧ K m z cs ∧ ∀ j u, cs[j]? = some u → W.cell? ⟨b, off + i * c + j, none⟩ = some u) ∧ sumF cost l + 1 ≤ Rows.uptoBulk x.1 := by
  rcases DataW.trod_slice ht h with ⟨hcs, hx⟩ | ⟨a, len, cap, elems, rest, m, hn, hcs, hx, hb, hl, hm, hlen, hi, -, -⟩
  · simp only [List.cons.injEq, and_true] at hcs
    obtain ⟨m, rfl⟩ : ∃ m, n = m + 1 := by
      cases n with
      | zero => simp [DataW.trod] at h
      | succ m => exact ⟨m, rfl⟩
    refine ⟨m, [], none, 0, rfl, hcs, Nat.le_refl _, fun i z hz => by simp at hz, ?_⟩
    rw [hx]; simp [sumF, Rows.uptoBulk]
  · simp only [List.cons.injEq, and_true] at hcs
    rw [hce] at hi
    have hbulk : Rows.uptoBulkAll (elems.map (·.1)) + 1 ≤ Rows.uptoBulk x.1 := by rw [hx]; simp only [Rows.uptoBulk]; omega
    have key : ∀ i, ∃ z : α, i < len → ∃ cs y, elems[i]? = some y ∧ K m z cs ∧ cost z ≤ Rows.uptoBulk y.1 ∧ ∀ j u, cs[j]? = some u → W.cell? ((a.add (i * c)).add j) = some u := fun i => by
      by_cases him : i < len
      · have h1 := hi i him
        have h2 : elems[i]? = some (elems[i]'(by rw [hlen]; exact him)) := List.getElem?_eq_getElem _
        rw [h2] at h1
        cases hc2 : W.cells? base (a.add (i * c)) c with
        | none => rw [hc2] at h1; cases h1
        | some cs =>
          rw [hc2] at h1
          have h3 : DataW.trod enc Tryd.prog W base sp held m e cs = some (elems[i]'(by rw [hlen]; exact him)) := h1
          have h4 : Rows.uptoBulk (elems[i]'(by rw [hlen]; exact him)).1 ≤ B := by
            have := bulk_part (d := (elems[i]'(by rw [hlen]; exact him)).1) (l := elems.map (·.1)) (List.mem_map.2 ⟨_, List.getElem_mem _, rfl⟩)
            omega
          obtain ⟨z, hz, hz2⟩ := hel m cs _ (by omega) h3 h4
          obtain ⟨-, -, hat⟩ := World.cells?_some hc2
          refine ⟨z, fun _ => ⟨cs, _, h2, hz, hz2, fun j u hj => ?_⟩⟩
          obtain ⟨hj1, hj2⟩ := List.getElem?_eq_some_iff.1 hj
          have := hat j (by rw [← hK m z cs hz]; exact hj1)
          rw [this]
          exact hj
      · exact ⟨default, fun h => absurd h him⟩
    obtain ⟨f, all⟩ : ∃ f : Nat → α, ∀ i, i < len → ∃ cs y, elems[i]? = some y ∧ K m (f i) cs ∧ cost (f i) ≤ Rows.uptoBulk y.1 ∧ ∀ j u, cs[j]? = some u → W.cell? ((a.add (i * c)).add j) = some u := ⟨fun i => (key i).choose, fun i => (key i).choose_spec⟩
    clear key
    have hll : ((List.range len).map f).length = len := by simp
    refine ⟨m, (List.range len).map f, some a, cap, hn.symm, by rw [hll]; exact hcs, by rw [hll]; exact hl, fun i z hz => ?_, ?_⟩
    · obtain ⟨h1, h2⟩ := List.getElem?_eq_some_iff.1 hz
      rw [hll] at h1
      have h3 : f i = z := by simpa using h2
      obtain ⟨cs, y, hy, hk, -, hat⟩ := all i h1
      rw [h3] at hk
      obtain ⟨b, off, spot⟩ := a
      obtain ⟨cs0, y0, -, hk0, -, hat0⟩ := all 0 (by omega)
      have hlen0 := hK m _ cs0 hk0
      have c0 := hat0 0 (cs0[0]'(by omega)) (List.getElem?_eq_getElem _)
      have hs : spot = none := by
        have hq := World.cell?_spot c0
        simpa [Addr.add] using hq
      subst hs
      rw [plain_add, plain_add] at c0
      refine ⟨b, off, cs, rfl, World.block_lt_of_cell? W _ c0, hk, fun j u hj => ?_⟩
      have := hat j u hj
      rw [plain_add, plain_add] at this
      exact this
    · refine Nat.le_trans (Nat.add_le_add_right (cost_bulk cost _ (elems.map (·.1)) (by simp [hlen]) (fun i z y hz hy => ?_)) 1) hbulk
      obtain ⟨h1, h2⟩ := List.getElem?_eq_some_iff.1 hz
      rw [hll] at h1
      have h3 : f i = z := by simpa using h2
      obtain ⟨cs, y', hy', -, hcost, -⟩ := all i h1
      rw [List.getElem?_map, hy'] at hy
      simp only [Option.map_some, Option.some.injEq] at hy
      rw [← h3, ← hy]
      exact hcost
mutual
def costE : Ex → Nat
  | .mk o nm _ l _ => o.size + nm.size + 6 + costL l
def costL : List Ex → Nat
  | [] => 0
  | e :: r => costE e + costL r
end
mutual
def costS : St → Nat
  | .mk o nm e A B _ => o.size + nm.size + 7 + costL e + costB A + costB B
def costB : List St → Nat
  | [] => 0
  | s :: r => costS s + costB r
end
theorem costL_sum (l : List Ex) : costL l = sumF costE l := by
  induction l with
  | nil => rfl
  | cons x l ih => simp only [costL, sumF, ih]
theorem costB_sum (l : List St) : costB l = sumF costS l := by
  induction l with
  | nil => rfl
  | cons x l ih => simp only [costB, sumF, ih]
theorem costE_one (x : Ex) : 1 ≤ costE x := by cases x; simp only [costE]; omega
theorem costS_one (x : St) : 1 ≤ costS x := by cases x; simp only [costS]; omega
theorem costL_len (l : List Ex) : l.length ≤ costL l := by
  induction l with
  | nil => exact Nat.zero_le _
  | cons x l ih => have := costE_one x; simp only [costL, List.length_cons]; omega
theorem costB_len (l : List St) : l.length ≤ costB l := by
  induction l with
  | nil => exact Nat.zero_le _
  | cons x l ih => have := costS_one x; simp only [costB, List.length_cons]; omega
instance : Inhabited Ex := ⟨.mk ⟨#[]⟩ ⟨#[]⟩ 0 [] 0⟩
instance : Inhabited St := ⟨.mk ⟨#[]⟩ ⟨#[]⟩ [] [] [] 0⟩
theorem in64_of {k : Int} (h : (Lit.int .i64 k).wf = true) : In64 k := by
  simp only [Lit.wf, Bool.and_eq_true, decide_eq_true_eq] at h
  exact ⟨h.1, h.2⟩
/-- An expression's cells. -/
def KEx (W : World) (n : Nat) (x : Ex) (cs : List Value) : Prop := ∃ L, cs = [.string x.op, .string x.nm, .int .i64 x.n, L, .int .i64 x.a] ∧ In64 x.n ∧ In64 x.a ∧ ExR (fun b => b < W.heap.size) n W x.l L
/-- A statement's cells. -/
def KSt (W : World) (n : Nat) (x : St) (cs : List Value) : Prop := ∃ LE LA LB, cs = [.string x.op, .string x.nm, LE, LA, LB, .int .i64 x.a] ∧ In64 x.a ∧ ExR (fun b => b < W.heap.size) n W x.e LE ∧ StR (fun b => b < W.heap.size) n W x.A LA ∧ StR (fun b => b < W.heap.size) n W x.B LB
section
variable {H : Type} {enc : TypeId × Value → H} {W : World} {b0 base : Nat} {sp : Nat → Bool} {held : Bool} {v : Value} {d : DataW H} {ps : List MemPlace}
end
end
end Go.Proofs.YteaongdlbleehaaDoor
