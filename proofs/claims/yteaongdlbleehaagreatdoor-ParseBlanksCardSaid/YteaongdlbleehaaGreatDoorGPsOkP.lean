/- Put together of: PsOkP, PsRdP, PsLen. -/
import Derived.Test.YteaongdlbleehaaGreatDoorGPsOk
import Derived.Test.YteaongdlbleehaaGreatDoorGPsLx
import Derived.Test.YteaongdlbleehaaGreatDoorGPsRead
import Derived.Test.YteaongdlbleehaaGreatDoorGPsRows
import Derived.Test.YteaongdlbleehaaGreatDoorGTrRef
/- The parse layer: what is read of a program is what may be. -/
namespace Go.Proofs.YteaongdlbleehaaGreatDoor
section
variable {len d a o f k : Nat} {t : Tok} {ts : List Tok} {s s1 : PS} {w nm : Bs} {l : List ByteArray} {q : Pg}
def wtE (l : List (ByteArray × List ByteArray)) : Nat := (l.map fun e => 1 + e.2.length).sum
def wtP (l : List (ByteArray × List St)) : Nat := (l.map fun x => 1 + szB x.2).sum
/-- How great what is declared is. -/
def wtQ (q : Pg) : Nat := wtE q.enums + q.vars.length + wtP q.procs
structure OkQ (p : Pg) : Prop where
  en : ∀ e ∈ p.enums, NameB e.1.data.toList ∧ e.2 ≠ [] ∧ ∀ n ∈ e.2, NameB n.data.toList
  va : ∀ v ∈ p.vars, NameB v.1.data.toList ∧ (v.2.1.data.toList = tInt ∨ v.2.1.data.toList = tBool ∨ NameB v.2.1.data.toList) ∧ 0 ≤ v.2.2 ∧ v.2.2 ≤ 1152921504606846976
  pr : ∀ q ∈ p.procs, NameB q.1.data.toList ∧ OkB q.2
theorem more_ok (f : Nat) : ∀ (s : PS) (l : List ByteArray), TokG s.ts → Sub (moreN len f s l).1 s ∧ ((moreN len f s l).1.no = 0 → s.no = 0 ∧ ((∀ n ∈ l, NameB n.data.toList) → ∀ n ∈ (moreN len f s l).2, NameB n.data.toList) ∧ l.length ≤ (moreN len f s l).2.length ∧ (moreN len f s l).2.length + (moreN len f s l).1.ts.length ≤ l.length + s.ts.length) := by
  induction f with
  | zero => exact fun s l hg => ⟨fun _ h => h, fun h => ⟨h, fun hl => hl, Nat.le_refl _, Nat.le_refl _⟩⟩
  | succ f ih =>
    intro s l hg
    simp only [moreN]
    split
    · rename_i hi
      have hp := is_pos' (by decide) hi
      obtain ⟨s0, e0, u0, q0, c0⟩ := take_st s
      rw [e0]
      obtain ⟨r1, e1, u1, k1⟩ := name_st (len := len) s0 (u0.good hg)
      rw [e1]
      obtain ⟨v1, v2⟩ := ih r1.1 (l ++ [bA r1.2]) (u1.good (u0.good hg))
      obtain ⟨q, hq⟩ : ∃ q, moreN len f r1.1 (l ++ [bA r1.2]) = q := ⟨_, rfl⟩
      rw [hq] at v1 v2 ⊢
      refine ⟨u0.tr (u1.tr v1), fun h => ?_⟩
      obtain ⟨x1, x2, x3, x4⟩ := v2 h
      obtain ⟨n1, o1, c1⟩ := k1 x1
      rw [List.length_append, List.length_singleton] at x3 x4
      refine ⟨by rw [← q0]; exact n1, fun hl => x2 fun n hn => ?_, by omega, by omega⟩
      rcases List.mem_append.1 hn with hn | hn
      · exact hl n hn
      · rw [List.mem_singleton] at hn; subst hn; exact o1
    · exact ⟨fun _ h => h, fun h => ⟨h, fun hl => hl, Nat.le_refl _, Nat.le_refl _⟩⟩
theorem enum_ok (hg : TokG s.ts) : Sub (enumP len s).1 s ∧ ((enumP len s).1.no = 0 → s.no = 0 ∧ (NameB (enumP len s).2.1.data.toList ∧ (enumP len s).2.2 ≠ [] ∧ ∀ n ∈ (enumP len s).2.2, NameB n.data.toList) ∧ 1 + (enumP len s).2.2.length + (enumP len s).1.ts.length ≤ s.ts.length) := by
  unfold enumP
  obtain ⟨r1, e1, u1, k1⟩ := name_st (len := len) s hg
  obtain ⟨s2, e2, u2, k2⟩ := exp_st (len := len) [123] (by decide) r1.1
  obtain ⟨r3, e3, u3, k3⟩ := name_st (len := len) s2 (u2.good (u1.good hg))
  obtain ⟨v1, v2⟩ := more_ok (len := len) (r3.1.ts.length + 1) r3.1 [bA r3.2] (u3.good (u2.good (u1.good hg)))
  obtain ⟨c, hc⟩ : ∃ q, moreN len (r3.1.ts.length + 1) r3.1 [bA r3.2] = q := ⟨_, rfl⟩
  rw [hc] at v1 v2
  obtain ⟨s5, e5, u5, k5⟩ := exp_st (len := len) [125] (by decide) c.1
  simp only [e1, e2, e3, hc, e5]
  refine ⟨u1.tr (u2.tr (u3.tr (v1.tr u5))), fun h => ?_⟩
  obtain ⟨n5, c5⟩ := k5 h
  obtain ⟨x1, x2, x3, x4⟩ := v2 n5
  obtain ⟨n3, o3, c3⟩ := k3 x1
  obtain ⟨n2, c2⟩ := k2 n3
  obtain ⟨n1, o1, c1⟩ := k1 n2
  rw [List.length_singleton] at x3 x4
  refine ⟨n1, ⟨o1, fun e => by rw [e] at x3; simp at x3, x2 fun n hn => ?_⟩, by omega⟩
  rw [List.mem_singleton] at hn; subst hn; exact o3
theorem type_st (s : PS) (hg : TokG s.ts) : ∃ r, typeP len s = r ∧ Sub r.1 s ∧ (r.1.no = 0 → s.no = 0 ∧ (r.2 = tInt ∨ r.2 = tBool ∨ NameB r.2) ∧ r.1.ts.length + 1 = s.ts.length) := by
  unfold typeP
  split
  · rename_i h
    have hh : (nxt len s).text = tInt ∨ (nxt len s).text = tBool := by unfold isF at h; simpa using h
    have hp := nxt_text_pos (len := len) (s := s) (by rcases hh with e | e <;> (rw [e]; decide))
    obtain ⟨s0, e0, u0, q0, c0⟩ := take_st s
    rw [e0]
    exact ⟨_, rfl, u0, fun h => ⟨by rw [← q0]; exact h, by rcases hh with e | e <;> simp [e], by dsimp only; omega⟩⟩
  · obtain ⟨r1, e1, u1, k1⟩ := name_st (len := len) s hg
    rw [e1]
    refine ⟨_, rfl, u1, fun h => ?_⟩
    obtain ⟨n1, o1, c1⟩ := k1 h
    exact ⟨n1, .inr (.inr o1), c1⟩
theorem size_st (s : PS) (hg : TokG s.ts) : ∃ r, sizeP len s = r ∧ Sub r.1 s ∧ (r.1.no = 0 → s.no = 0 ∧ r.2 ≤ 1152921504606846976 ∧ r.1.ts.length + 1 = s.ts.length) := by
  unfold sizeP
  split
  · rename_i h
    have hp : 1 ≤ s.ts.length ∧ (nxt len s).n ≤ 1152921504606846976 := by
      have h1 := h.1
      unfold nxt at h1 ⊢
      cases hs : s.ts with
      | nil => rw [hs] at h1; simp at h1
      | cons t r => exact ⟨by simp, (hg t (by rw [hs]; exact List.mem_cons_self)).2.1⟩
    obtain ⟨s0, e0, u0, q0, c0⟩ := take_st s
    rw [e0]
    exact ⟨_, rfl, u0, fun h => ⟨by rw [← q0]; exact h, hp.2, by dsimp only; omega⟩⟩
  · exact ⟨_, rfl, s_fail 130 s, fun h => absurd h (fail_no (by decide))⟩
theorem var_ok (hg : TokG s.ts) : Sub (varP len s).1 s ∧ ((varP len s).1.no = 0 → s.no = 0 ∧ (NameB (varP len s).2.1.data.toList ∧ ((varP len s).2.2.1.data.toList = tInt ∨ (varP len s).2.2.1.data.toList = tBool ∨ NameB (varP len s).2.2.1.data.toList) ∧ 0 ≤ (varP len s).2.2.2 ∧ (varP len s).2.2.2 ≤ 1152921504606846976) ∧ 1 + (varP len s).1.ts.length ≤ s.ts.length) := by
  unfold varP
  obtain ⟨r1, e1, u1, k1⟩ := name_st (len := len) s hg
  obtain ⟨s2, e2, u2, k2⟩ := exp_st (len := len) [58] (by decide) r1.1
  obtain ⟨r3, e3, u3, k3⟩ := type_st (len := len) s2 (u2.good (u1.good hg))
  simp only [e1, e2, e3]
  have g3 := u3.good (u2.good (u1.good hg))
  split
  · rename_i hi
    have hp := is_pos' (by decide) hi
    obtain ⟨s0, e0, u0, q0, c0⟩ := take_st r3.1
    obtain ⟨r4, e4, u4, k4⟩ := size_st (len := len) s0 (u0.good g3)
    obtain ⟨s5, e5, u5, k5⟩ := exp_st (len := len) [93] (by decide) r4.1
    obtain ⟨s6, e6, u6, k6⟩ := exp_st (len := len) [59] (by decide) s5
    simp only [e0, e4, e5, e6]
    refine ⟨u1.tr (u2.tr (u3.tr (u0.tr (u4.tr (u5.tr u6))))), fun h => ?_⟩
    obtain ⟨n6, c6⟩ := k6 h
    obtain ⟨n5, c5⟩ := k5 n6
    obtain ⟨n4, o4, c4⟩ := k4 n5
    obtain ⟨n3, o3, c3⟩ := k3 (by rw [← q0]; exact n4)
    obtain ⟨n2, c2⟩ := k2 n3
    obtain ⟨n1, o1, c1⟩ := k1 n2
    exact ⟨n1, ⟨o1, o3, by omega, by omega⟩, by omega⟩
  · obtain ⟨s6, e6, u6, k6⟩ := exp_st (len := len) [59] (by decide) r3.1
    simp only [e6]
    refine ⟨u1.tr (u2.tr (u3.tr u6)), fun h => ?_⟩
    obtain ⟨n6, c6⟩ := k6 h
    obtain ⟨n3, o3, c3⟩ := k3 n6
    obtain ⟨n2, c2⟩ := k2 n3
    obtain ⟨n1, o1, c1⟩ := k1 n2
    exact ⟨n1, ⟨o1, o3, by omega, by omega⟩, by omega⟩
theorem proc_ok (hg : TokG s.ts) : Sub (procP len s).1 s ∧ ((procP len s).1.no = 0 → s.no = 0 ∧ (NameB (procP len s).2.1.data.toList ∧ OkB (procP len s).2.2) ∧ 1 + szB (procP len s).2.2 + (procP len s).1.ts.length ≤ s.ts.length) := by
  unfold procP
  obtain ⟨r1, e1, u1, k1⟩ := name_st (len := len) s hg
  obtain ⟨r2, e2, u2, k2⟩ := blk_st (blkE_ok (len := len)) r1.1 (u1.good hg)
  simp only [e1, e2]
  refine ⟨u1.tr u2, fun h => ?_⟩
  obtain ⟨n2, o2, c2⟩ := k2 h
  obtain ⟨n1, o1, c1⟩ := k1 n2
  exact ⟨n1, ⟨o1, o2⟩, by omega⟩
theorem wtE_snoc (l : List (ByteArray × List ByteArray)) (e : ByteArray × List ByteArray) : wtE (l ++ [e]) = wtE l + (1 + e.2.length) := by unfold wtE; simp
theorem wtP_snoc (l : List (ByteArray × List St)) (e : ByteArray × List St) : wtP (l ++ [e]) = wtP l + (1 + szB e.2) := by unfold wtP; simp
theorem decl_ok (q : Pg) (hg : TokG s.ts) : Sub (declP len s q).1 s ∧ ((declP len s q).1.no = 0 → s.no = 0 ∧ (OkQ q → OkQ (declP len s q).2) ∧ wtQ (declP len s q).2 + (declP len s q).1.ts.length ≤ wtQ q + s.ts.length) := by
  obtain ⟨s0, e0, u0, q0, c0⟩ := take_st s
  have g0 := u0.good hg
  have snoc : ∀ {α : Type} (l : List α) (x : α) (P : α → Prop), (∀ y ∈ l, P y) → P x → ∀ y ∈ l ++ [x], P y := fun l x P h1 h2 y hy => by
    rcases List.mem_append.1 hy with hy | hy
    · exact h1 y hy
    · rw [List.mem_singleton] at hy; subst hy; exact h2
  unfold declP
  rw [e0]
  split
  · obtain ⟨v1, v2⟩ := enum_ok (len := len) g0
    obtain ⟨r, hr⟩ : ∃ r, enumP len s0 = r := ⟨_, rfl⟩
    rw [hr] at v1 v2 ⊢
    refine ⟨u0.tr v1, fun h => ?_⟩
    obtain ⟨x1, x2, x3⟩ := v2 h
    refine ⟨by rw [← q0]; exact x1, fun hq => ⟨snoc _ _ _ hq.en x2, hq.va, hq.pr⟩, ?_⟩
    simp only [wtQ, wtE_snoc]
    omega
  · split
    · obtain ⟨v1, v2⟩ := var_ok (len := len) g0
      obtain ⟨r, hr⟩ : ∃ r, varP len s0 = r := ⟨_, rfl⟩
      rw [hr] at v1 v2 ⊢
      refine ⟨u0.tr v1, fun h => ?_⟩
      obtain ⟨x1, x2, x3⟩ := v2 h
      refine ⟨by rw [← q0]; exact x1, fun hq => ⟨hq.en, snoc _ _ _ hq.va x2, hq.pr⟩, ?_⟩
      simp only [wtQ, List.length_append, List.length_singleton]
      omega
    · split
      · obtain ⟨v1, v2⟩ := proc_ok (len := len) g0
        obtain ⟨r, hr⟩ : ∃ r, procP len s0 = r := ⟨_, rfl⟩
        rw [hr] at v1 v2 ⊢
        refine ⟨u0.tr v1, fun h => ?_⟩
        obtain ⟨x1, x2, x3⟩ := v2 h
        refine ⟨by rw [← q0]; exact x1, fun hq => ⟨hq.en, hq.va, snoc _ _ _ hq.pr x2⟩, ?_⟩
        simp only [wtQ, wtP_snoc]
        omega
      · exact ⟨s_fail 130 s, fun h => absurd h (fail_no (by decide))⟩
theorem decls_ok (f : Nat) : ∀ (s : PS) (q : Pg), TokG s.ts → Sub (declsP len f s q).1 s ∧ ((declsP len f s q).1.no = 0 → s.no = 0 ∧ (OkQ q → OkQ (declsP len f s q).2) ∧ wtQ (declsP len f s q).2 + (declsP len f s q).1.ts.length ≤ wtQ q + s.ts.length) := by
  induction f with
  | zero => exact fun s q hg => ⟨fun _ h => h, fun h => ⟨h, fun hq => hq, Nat.le_refl _⟩⟩
  | succ f ih =>
    intro s q hg
    simp only [declsP]
    split
    · obtain ⟨v1, v2⟩ := decl_ok (len := len) q hg
      obtain ⟨r, hr⟩ : ∃ r, declP len s q = r := ⟨_, rfl⟩
      rw [hr] at v1 v2 ⊢
      obtain ⟨x1, x2⟩ := ih r.1 r.2 (v1.good hg)
      obtain ⟨z, hz⟩ : ∃ z, declsP len f r.1 r.2 = z := ⟨_, rfl⟩
      rw [hz] at x1 x2 ⊢
      refine ⟨v1.tr x1, fun h => ?_⟩
      obtain ⟨y1, y2, y3⟩ := x2 h
      obtain ⟨w1, w2, w3⟩ := v2 y1
      exact ⟨w1, fun hq => y2 (w2 hq), by omega⟩
    · exact ⟨fun _ h => h, fun h => ⟨h, fun hq => hq, Nat.le_refl _⟩⟩
theorem prog_ok (hg : TokG s.ts) (h : (progP len s).1.no = 0) : OkP (progP len s).2 ∧ wtQ (progP len s).2 + szB (progP len s).2.main + (progP len s).1.ts.length ≤ s.ts.length := by
  unfold progP at h ⊢
  obtain ⟨v1, v2⟩ := decls_ok (len := len) (s.ts.length + 2) s pg0 hg
  obtain ⟨a, ha⟩ : ∃ a, declsP len (s.ts.length + 2) s pg0 = a := ⟨_, rfl⟩
  rw [ha] at v1 v2
  obtain ⟨s1, e1, u1, k1⟩ := exp_st (len := len) tMain (by decide) a.1
  obtain ⟨r2, e2, u2, k2⟩ := blk_st (blkE_ok (len := len)) s1 (u1.good (v1.good hg))
  simp only [ha, e1, e2] at h ⊢
  obtain ⟨n2, o2, c2⟩ := k2 h
  obtain ⟨n1, c1⟩ := k1 n2
  obtain ⟨x1, x2, x3⟩ := v2 n1
  have hq := x2 ⟨(fun x hx => by cases hx), (fun x hx => by cases hx), (fun x hx => by cases hx)⟩
  have h0 : wtQ pg0 = 0 := rfl
  refine ⟨⟨hq.en, hq.va, hq.pr, o2⟩, ?_⟩
  have : wtQ ⟨a.2.enums, a.2.vars, a.2.procs, r2.2⟩ = wtQ a.2 := rfl
  omega
/-! ### What is lexed -/
theorem tok_good {c : UInt8} {r : Bs} {k v : Nat} (h : tokP ((c :: r).take (flen (c :: r))) = .inl (k, v)) : (k = 0 → WordB ((c :: r).take (flen (c :: r)))) ∧ (c :: r).take (flen (c :: r)) ≠ tAName := by
  have hp := flen_pos c r
  obtain ⟨n, hn⟩ : ∃ n, flen (c :: r) = n + 1 := ⟨flen (c :: r) - 1, by omega⟩
  have htk : (c :: r).take (flen (c :: r)) = c :: r.take n := by rw [hn]; rfl
  cases hc : letterB c
  · rw [htk] at h ⊢
    simp only [tokP] at h
    rw [if_neg (by rw [hc]; decide)] at h
    have h97 : c ≠ 97 := by rintro rfl; revert hc; decide
    refine ⟨fun q => ?_, fun q => h97 (by injection q)⟩
    subst q
    split at h
    · split at h
      · cases h
      · cases h
    · split at h
      · cases h
      · cases h
  · have h35 := (letter_plain hc).2
    have hn2 : n = (r.takeWhile nameB).length := by
      have : flen (c :: r) = 1 + (r.takeWhile nameB).length := by simp only [flen]; rw [if_neg h35, if_pos hc]
      omega
    rw [htk] at h ⊢
    have e2 : r.take n = r.takeWhile nameB := by rw [hn2]; exact take_tw _ _
    rw [e2] at h ⊢
    have hall : ∀ b ∈ r.takeWhile nameB, nameB b = true := fun b hb => tw_all _ _ b hb
    refine ⟨fun _ => ⟨c, _, rfl, hc, hall, ?_⟩, fun q => ?_⟩
    · simp only [tokP] at h
      rw [if_pos hc] at h
      split at h
      · cases h
      · rename_i hl
        simp only [List.length_cons] at hl
        omega
    · injection q with q1 q2
      have := hall 32 (by rw [q2]; decide)
      revert this; decide
theorem lexF_good' (f : Nat) : ∀ (l : Bs) (p : Nat) (acc : List Tok), TokG acc → TokG (lexF f l p acc).1 := by
  induction f with
  | zero => exact fun l p acc h => h
  | succ f ih =>
    intro l p acc h
    cases l with
    | nil => exact h
    | cons c r =>
      simp only [lexF]
      split
      · exact ih _ _ _ h
      · split
        · rename_i k v hk
          have hkv := tokAt_kind (c := c) (r := r) hk
          obtain ⟨g1, g2⟩ := tok_good hk
          refine ih _ _ _ fun t ht => ?_
          rcases List.mem_append.1 ht with ht | ht
          · exact h t ht
          · rw [List.mem_singleton] at ht
            subst ht
            exact ⟨g1, hkv.2, g2⟩
        · exact fun t ht => by cases ht
theorem lexS_good' (l : Bs) : TokG (lexS l).1 := by
  unfold lexS
  split
  · exact fun t ht => by cases ht
  · exact lexF_good' _ _ _ _ fun t ht => by cases ht
/-- What is read of a text may be, and is no greater than its tokens are many. -/
theorem parse_ok {l : Bs} (h : (parseT l).2.2 = 0) : OkP (parseT l).1 ∧ wtQ (parseT l).1 + szB (parseT l).1.main ≤ 4096 ∧ (parseT l).2.1 = l.length := by
  obtain ⟨ts, at', no, hlx⟩ : ∃ ts at' no, lexS l = (ts, at', no) := ⟨_, _, _, rfl⟩
  have hg := lexS_good' l
  have hs := lexS_small l
  rw [hlx] at hg hs
  unfold parseT at h ⊢
  by_cases h0 : no = 0
  · subst h0
    obtain ⟨r, hr⟩ : ∃ r, r = progP l.length ⟨ts, 0, 0⟩ := ⟨_, rfl⟩
    obtain ⟨rr, hrr⟩ : ∃ rr, rr = endP l.length r := ⟨_, rfl⟩
    rw [readT_go pg0 hlx hr hrr] at h ⊢
    by_cases hno : rr.no = 0
    · rw [if_neg (by rw [hno]; decide)]
      have h1 : r.1.no = 0 := by
        unfold endP at hrr
        split at hrr
        · rw [← hrr]; exact hno
        · rw [hrr] at hno; exact absurd hno (fail_no (by decide))
      rw [hr] at h1 ⊢
      obtain ⟨k1, k2⟩ := prog_ok (len := l.length) (s := ⟨ts, 0, 0⟩) hg h1
      exact ⟨k1, by have := hs.2.1; dsimp only at k2 this ⊢; omega, rfl⟩
    · rw [if_pos hno] at h
      exact absurd h hno
  · rw [readT_fail progP pg0 hlx h0] at h
    exact absurd h h0
end
end Go.Proofs.YteaongdlbleehaaGreatDoor

/- The parse layer: the tokens of a program are read as it. -/
namespace Go.Proofs.YteaongdlbleehaaGreatDoor
section
variable {len a f : Nat} {t : Tok} {ts : List Tok} {R : List T3} {q : Pg}
theorem more_rd (r : List ByteArray) (h : ∀ n ∈ r, NameB n.data.toList) : ∀ (f : Nat) (ts : List Tok) (acc : List ByteArray), r.length < f → ts.map tk3 = tkNs r ++ (sg [125] :: R) → ∃ ts', moreN len f ⟨ts, a, 0⟩ acc = (⟨ts', a, 0⟩, acc ++ r) ∧ ts'.map tk3 = sg [125] :: R := by
  induction r with
  | nil =>
    intro f ts acc hf hts
    obtain ⟨f, rfl⟩ : ∃ q, f = q + 1 := ⟨f - 1, by simp only [List.length_nil] at hf; omega⟩
    simp only [tkNs, List.nil_append] at hts
    have hts2 := hts
    obtain ⟨t, ts, rfl, ht, hts⟩ := map_cons hts
    simp only [moreN]
    rw [isF_miss (w := [44]) (by rw [(tk_sg ht).2.1]; decide), if_neg (by decide), List.append_nil]
    exact ⟨_, rfl, hts2⟩
  | cons n r ih =>
    intro f ts acc hf hts
    simp only [List.length_cons] at hf
    obtain ⟨f, rfl⟩ : ∃ q, f = q + 1 := ⟨f - 1, by omega⟩
    simp only [tkNs, List.cons_append] at hts
    obtain ⟨t, ts, rfl, ht, hts⟩ := map_cons hts
    obtain ⟨u, ts, rfl, hu, hts⟩ := map_cons hts
    obtain ⟨k1, k2, -⟩ := tk_wd hu
    simp only [moreN]
    rw [isF_hit (tk_sg ht).2.1, if_pos rfl, show takeF ⟨t :: u :: ts, a, 0⟩ = ⟨u :: ts, a, 0⟩ from rfl, name_hit k1 (by rw [k2]; exact h n (List.mem_cons_self ..))]
    obtain ⟨ts', e1, e2⟩ := ih (fun m hm => h m (List.mem_cons_of_mem _ hm)) f ts (acc ++ [bA u.text]) (by omega) hts
    refine ⟨ts', ?_, e2⟩
    dsimp only
    rw [e1, k2, List.append_assoc]
    rfl
theorem tkNs_len (r : List ByteArray) : r.length ≤ (tkNs r).length := by
  induction r with
  | nil => exact Nat.le_refl _
  | cons x r ih => simp only [tkNs, List.length_cons]; omega
theorem enum_rd (e : ByteArray × List ByteArray) (h : NameB e.1.data.toList ∧ e.2 ≠ [] ∧ ∀ n ∈ e.2, NameB n.data.toList) (hts : ts.map tk3 = tkEn e ++ R) : ∃ t ts1 ts', ts = t :: ts1 ∧ t.text = tEnum ∧ enumP len ⟨ts1, a, 0⟩ = (⟨ts', a, 0⟩, e) ∧ ts'.map tk3 = R := by
  obtain ⟨h1, h2, h3⟩ := h
  obtain ⟨nm, l⟩ := e
  cases l with
  | nil => exact absurd rfl h2
  | cons n r =>
    simp only [tkEn, List.cons_append, List.append_assoc, List.nil_append] at hts
    obtain ⟨t, ts, rfl, ht, hts⟩ := map_cons hts
    obtain ⟨u, ts, rfl, hu, hts⟩ := map_cons hts
    obtain ⟨k1, k2, -⟩ := tk_wd hu
    obtain ⟨v, ts, rfl, hv, hts⟩ := map_cons hts
    obtain ⟨w, ts, rfl, hw, hts⟩ := map_cons hts
    obtain ⟨m1, m2, -⟩ := tk_wd hw
    have hl := congrArg List.length hts
    rw [List.length_map, List.length_append] at hl
    have hr := tkNs_len r
    obtain ⟨ts', e1, e2⟩ := more_rd (len := len) (a := a) r (fun m hm => h3 m (List.mem_cons_of_mem _ hm)) (ts.length + 1) ts [bA w.text] (by omega) hts
    obtain ⟨x, ts', rfl, hx, e2⟩ := map_cons e2
    refine ⟨t, _, ts', rfl, (tk_wd ht).2.1, ?_, e2⟩
    unfold enumP
    rw [name_hit k1 (by rw [k2]; exact h1)]
    dsimp only
    rw [exp_hit (tk_sg hv).2.1, name_hit m1 (by rw [m2]; exact h3 n (List.mem_cons_self ..))]
    dsimp only
    rw [e1]
    dsimp only
    rw [exp_hit (tk_sg hx).2.1, k2, m2]
    rfl
theorem var_rd (v : ByteArray × ByteArray × Int) (h : NameB v.1.data.toList ∧ (v.2.1.data.toList = tInt ∨ v.2.1.data.toList = tBool ∨ NameB v.2.1.data.toList) ∧ 0 ≤ v.2.2 ∧ v.2.2 ≤ 1152921504606846976) (hts : ts.map tk3 = tkVa v ++ R) : ∃ t ts1 ts', ts = t :: ts1 ∧ t.text = tVar ∧ varP len ⟨ts1, a, 0⟩ = (⟨ts', a, 0⟩, v) ∧ ts'.map tk3 = R := by
  obtain ⟨h1, h2, h3, h4⟩ := h
  obtain ⟨nm, ty, n⟩ := v
  simp only [tkVa, List.cons_append] at hts
  obtain ⟨t, ts, rfl, ht, hts⟩ := map_cons hts
  obtain ⟨u, ts, rfl, hu, hts⟩ := map_cons hts
  obtain ⟨k1, k2, -⟩ := tk_wd hu
  obtain ⟨c, ts, rfl, hc, hts⟩ := map_cons hts
  obtain ⟨w, ts, rfl, hw, hts⟩ := map_cons hts
  obtain ⟨m1, m2, -⟩ := tk_wd hw
  have hty : typeP len ⟨w :: ts, a, 0⟩ = (⟨ts, a, 0⟩, w.text) := by
    unfold typeP
    rcases h2 with h2 | h2 | h2
    · rw [isF_hit (w := tInt) (by rw [m2]; exact h2)]; rfl
    · rw [isF_hit (w := tBool) (by rw [m2]; exact h2), Bool.or_true]; rfl
    · have n1 : w.text ≠ tInt := by intro e; have := h2.2; rw [← m2, e] at this; revert this; decide
      have n2 : w.text ≠ tBool := by intro e; have := h2.2; rw [← m2, e] at this; revert this; decide
      rw [isF_miss n1, isF_miss n2, if_neg (by decide)]
      exact name_hit m1 (by rw [m2]; exact h2)
  refine ⟨t, u :: c :: w :: ts, ?_⟩
  by_cases hn : 0 < n
  · simp only [if_pos hn, List.cons_append, List.nil_append] at hts
    obtain ⟨x, ts, rfl, hx, hts⟩ := map_cons hts
    obtain ⟨y, ts, rfl, hy, hts⟩ := map_cons hts
    obtain ⟨y1, y2, y3⟩ := tk_num3 hy
    obtain ⟨z, ts, rfl, hz, hts⟩ := map_cons hts
    obtain ⟨j, ts, rfl, hj, hts⟩ := map_cons hts
    refine ⟨ts, rfl, (tk_wd ht).2.1, ?_, hts⟩
    unfold varP
    rw [name_hit k1 (by rw [k2]; exact h1)]
    dsimp only
    rw [exp_hit (tk_sg hc).2.1, hty]
    dsimp only
    rw [isF_hit (tk_sg hx).2.1, if_pos rfl, show takeF ⟨x :: y :: z :: j :: ts, a, 0⟩ = ⟨y :: z :: j :: ts, a, 0⟩ from rfl]
    have hsz : sizeP len ⟨y :: z :: j :: ts, a, 0⟩ = (⟨z :: j :: ts, a, 0⟩, y.n) := by
      unfold sizeP
      rw [nxt_c, if_pos ⟨y1, by rw [y3]; omega⟩]
      rfl
    rw [hsz]
    dsimp only
    rw [exp_hit (tk_sg hz).2.1, exp_hit (tk_sg hj).2.1, k2, m2, y3, Int.toNat_of_nonneg h3]
  · simp only [if_neg hn, List.cons_append, List.nil_append] at hts
    obtain ⟨j, ts, rfl, hj, hts⟩ := map_cons hts
    have hjx := (tk_sg hj).2.1
    refine ⟨ts, rfl, (tk_wd ht).2.1, ?_, hts⟩
    unfold varP
    rw [name_hit k1 (by rw [k2]; exact h1)]
    dsimp only
    rw [exp_hit (tk_sg hc).2.1, hty]
    dsimp only
    rw [isF_miss (w := [91]) (by rw [hjx]; decide), if_neg (by decide), exp_hit hjx, k2, m2]
    have : n = 0 := by dsimp only at h3; omega
    rw [this]
def bdP (q : ByteArray × List St) : Prop := depB q.2 ≤ 15 ∧ flatB q.2
theorem proc_rd (q : ByteArray × List St) (h : NameB q.1.data.toList ∧ OkB q.2) (hts : ts.map tk3 = tkPr q ++ R) : ∃ t ts1, ts = t :: ts1 ∧ t.text = tProc ∧ ((∃ ts' q', procP len ⟨ts1, a, 0⟩ = (⟨ts', a, 0⟩, q') ∧ samePr q q' = true ∧ ts'.map tk3 = R) ∨ (∃ a' q', procP len ⟨ts1, a, 0⟩ = (⟨[], a', 131⟩, q') ∧ ¬ bdP q)) := by
  obtain ⟨h1, h2⟩ := h
  obtain ⟨nm, l⟩ := q
  simp only [tkPr, List.cons_append, List.append_assoc, List.nil_append] at hts
  obtain ⟨t, ts, rfl, ht, hts⟩ := map_cons hts
  obtain ⟨u, ts, rfl, hu, hts⟩ := map_cons hts
  obtain ⟨k1, k2, -⟩ := tk_wd hu
  refine ⟨t, u :: ts, rfl, (tk_wd ht).2.1, ?_⟩
  unfold procP
  rw [name_hit k1 (by rw [k2]; exact h1)]
  dsimp only
  rcases rd_blkE (len := len) (a := a) h2 hts with ⟨ts', x, e1, h3, h4⟩ | ⟨a', x, e1, hn⟩
  · rw [e1]
    refine .inl ⟨ts', _, rfl, ?_, h3⟩
    unfold samePr
    rw [k2, h4]
    show (nm.toList == nm.toList && true) = true
    simp
  · rw [e1]
    exact .inr ⟨a', _, rfl, hn⟩
theorem decls_enums (l : List (ByteArray × List ByteArray)) (h : ∀ e ∈ l, NameB e.1.data.toList ∧ e.2 ≠ [] ∧ ∀ n ∈ e.2, NameB n.data.toList) : ∀ (f : Nat) (ts : List Tok) (q : Pg), l.length ≤ f → ts.map tk3 = l.flatMap tkEn ++ R → ∃ ts', ts'.map tk3 = R ∧ declsP len f ⟨ts, a, 0⟩ q = declsP len (f - l.length) ⟨ts', a, 0⟩ ⟨q.enums ++ l, q.vars, q.procs, q.main⟩ := by
  induction l with
  | nil => exact fun f ts q hf hts => ⟨ts, by simpa using hts, by rw [List.append_nil]; rfl⟩
  | cons e l ih =>
    intro f ts q hf hts
    simp only [List.length_cons] at hf
    obtain ⟨f, rfl⟩ : ∃ q, f = q + 1 := ⟨f - 1, by omega⟩
    rw [List.flatMap_cons, List.append_assoc] at hts
    obtain ⟨t, ts1, ts', rfl, ht, e1, e2⟩ := enum_rd (len := len) (a := a) e (h e (List.mem_cons_self ..)) hts
    rw [decls_more f q ⟨rfl, isF_miss (by rw [ht]; decide)⟩]
    have hd : declP len ⟨t :: ts1, a, 0⟩ q = (⟨ts', a, 0⟩, ⟨q.enums ++ [e], q.vars, q.procs, q.main⟩) := by
      unfold declP
      rw [isF_hit ht, if_pos rfl, show takeF ⟨t :: ts1, a, 0⟩ = ⟨ts1, a, 0⟩ from rfl, e1]
    rw [hd]
    obtain ⟨ts2, k1, k2⟩ := ih (fun x hx => h x (List.mem_cons_of_mem _ hx)) f ts' ⟨q.enums ++ [e], q.vars, q.procs, q.main⟩ (by omega) e2
    refine ⟨ts2, k1, ?_⟩
    dsimp only at k2 ⊢
    rw [k2, List.append_assoc, List.length_cons, Nat.add_sub_add_right]
    rfl
theorem decls_vars (l : List (ByteArray × ByteArray × Int)) (h : ∀ v ∈ l, NameB v.1.data.toList ∧ (v.2.1.data.toList = tInt ∨ v.2.1.data.toList = tBool ∨ NameB v.2.1.data.toList) ∧ 0 ≤ v.2.2 ∧ v.2.2 ≤ 1152921504606846976) : ∀ (f : Nat) (ts : List Tok) (q : Pg), l.length ≤ f → ts.map tk3 = l.flatMap tkVa ++ R → ∃ ts', ts'.map tk3 = R ∧ declsP len f ⟨ts, a, 0⟩ q = declsP len (f - l.length) ⟨ts', a, 0⟩ ⟨q.enums, q.vars ++ l, q.procs, q.main⟩ := by
  induction l with
  | nil => exact fun f ts q hf hts => ⟨ts, by simpa using hts, by rw [List.append_nil]; rfl⟩
  | cons e l ih =>
    intro f ts q hf hts
    simp only [List.length_cons] at hf
    obtain ⟨f, rfl⟩ : ∃ q, f = q + 1 := ⟨f - 1, by omega⟩
    rw [List.flatMap_cons, List.append_assoc] at hts
    obtain ⟨t, ts1, ts', rfl, ht, e1, e2⟩ := var_rd (len := len) (a := a) e (h e (List.mem_cons_self ..)) hts
    rw [decls_more f q ⟨rfl, isF_miss (by rw [ht]; decide)⟩]
    have hd : declP len ⟨t :: ts1, a, 0⟩ q = (⟨ts', a, 0⟩, ⟨q.enums, q.vars ++ [e], q.procs, q.main⟩) := by
      unfold declP
      rw [isF_miss (w := tEnum) (by rw [ht]; decide), if_neg (by decide), isF_hit ht, if_pos rfl, show takeF ⟨t :: ts1, a, 0⟩ = ⟨ts1, a, 0⟩ from rfl, e1]
    rw [hd]
    obtain ⟨ts2, k1, k2⟩ := ih (fun x hx => h x (List.mem_cons_of_mem _ hx)) f ts' ⟨q.enums, q.vars ++ [e], q.procs, q.main⟩ (by omega) e2
    refine ⟨ts2, k1, ?_⟩
    dsimp only at k2 ⊢
    rw [k2, List.append_assoc, List.length_cons, Nat.add_sub_add_right]
    rfl
theorem decls_procs (l : List (ByteArray × List St)) (h : ∀ q ∈ l, NameB q.1.data.toList ∧ OkB q.2) : ∀ (f : Nat) (ts : List Tok) (q : Pg), l.length ≤ f → ts.map tk3 = l.flatMap tkPr ++ R →
    (∃ ts' l', ts'.map tk3 = R ∧ sameF samePr l l' = true ∧ declsP len f ⟨ts, a, 0⟩ q = declsP len (f - l.length) ⟨ts', a, 0⟩ ⟨q.enums, q.vars, q.procs ++ l', q.main⟩) ∨ (∃ a' q', declsP len f ⟨ts, a, 0⟩ q = (⟨[], a', 131⟩, q') ∧ ¬ ∀ q ∈ l, bdP q) := by
  induction l with
  | nil => exact fun f ts q hf hts => .inl ⟨ts, [], by simpa using hts, rfl, by rw [List.append_nil]; rfl⟩
  | cons e l ih =>
    intro f ts q hf hts
    simp only [List.length_cons] at hf
    obtain ⟨f, rfl⟩ : ∃ q, f = q + 1 := ⟨f - 1, by omega⟩
    rw [List.flatMap_cons, List.append_assoc] at hts
    obtain ⟨t, ts1, rfl, ht, ⟨ts', e', e1, e3, e2⟩ | ⟨a', e', e1, hn⟩⟩ := proc_rd (len := len) (a := a) e (h e (List.mem_cons_self ..)) hts
    · rw [decls_more f q ⟨rfl, isF_miss (by rw [ht]; decide)⟩]
      have hd : declP len ⟨t :: ts1, a, 0⟩ q = (⟨ts', a, 0⟩, ⟨q.enums, q.vars, q.procs ++ [e'], q.main⟩) := by
        unfold declP
        rw [isF_miss (w := tEnum) (by rw [ht]; decide), if_neg (by decide), isF_miss (w := tVar) (by rw [ht]; decide), if_neg (by decide), isF_hit ht, if_pos rfl, show takeF ⟨t :: ts1, a, 0⟩ = ⟨ts1, a, 0⟩ from rfl, e1]
      rw [hd]
      rcases ih (fun x hx => h x (List.mem_cons_of_mem _ hx)) f ts' ⟨q.enums, q.vars, q.procs ++ [e'], q.main⟩ (by omega) e2 with ⟨ts2, l2, k1, k3, k2⟩ | ⟨a2, q2, k1, k2⟩
      · refine .inl ⟨ts2, e' :: l2, k1, ?_, ?_⟩
        · simp only [sameF, e3, k3, Bool.and_self]
        · dsimp only at k2 ⊢
          rw [k2, List.append_assoc, List.length_cons, Nat.add_sub_add_right]
          rfl
      · exact .inr ⟨a2, q2, k1, fun hb => k2 fun x hx => hb x (List.mem_cons_of_mem _ hx)⟩
    · rw [decls_more f q ⟨rfl, isF_miss (by rw [ht]; decide)⟩]
      have hd : declP len ⟨t :: ts1, a, 0⟩ q = (⟨[], a', 131⟩, ⟨q.enums, q.vars, q.procs ++ [e'], q.main⟩) := by
        unfold declP
        rw [isF_miss (w := tEnum) (by rw [ht]; decide), if_neg (by decide), isF_miss (w := tVar) (by rw [ht]; decide), if_neg (by decide), isF_hit ht, if_pos rfl, show takeF ⟨t :: ts1, a, 0⟩ = ⟨ts1, a, 0⟩ from rfl, e1]
      rw [hd, decls_stop f _ (fun h => by have := h.1; cases this)]
      exact .inr ⟨a', _, rfl, fun hb => hn (hb e (List.mem_cons_self ..))⟩
theorem sameF_self {α : Type} {g : α → α → Bool} (h : ∀ x, g x x = true) (l : List α) : sameF g l l = true := by
  induction l with
  | nil => rfl
  | cons x l ih => simp only [sameF, h, ih, Bool.and_self]
theorem flat_len_le {α : Type} {g : α → List T3} (l : List α) (h : ∀ x ∈ l, 1 ≤ (g x).length) : l.length ≤ (l.flatMap g).length := by
  induction l with
  | nil => exact Nat.le_refl _
  | cons x l ih =>
    rw [List.flatMap_cons, List.length_append, List.length_cons]
    have := h x (List.mem_cons_self ..)
    have := ih fun y hy => h y (List.mem_cons_of_mem _ hy)
    omega
theorem rd_prog {p : Pg} (h : OkP p) (hts : ts.map tk3 = tkP p) : (∃ p', progP len ⟨ts, a, 0⟩ = (⟨[], a, 0⟩, p') ∧ samePg p p' = true) ∨ (∃ a' p', progP len ⟨ts, a, 0⟩ = (⟨[], a', 131⟩, p') ∧ ¬ ((∀ q ∈ p.procs, bdP q) ∧ (depB p.main ≤ 15 ∧ flatB p.main))) := by
  have hlen := congrArg List.length hts
  simp only [tkP, List.length_map, List.length_append, List.length_cons] at hlen
  have l1 := flat_len_le (g := tkEn) p.enums fun x _ => by simp [tkEn]
  have l2 := flat_len_le (g := tkVa) p.vars fun x _ => by simp [tkVa]
  have l3 := flat_len_le (g := tkPr) p.procs fun x _ => by simp [tkPr]
  unfold tkP at hts
  unfold progP
  obtain ⟨ts1, h1, e1⟩ := decls_enums (len := len) (a := a) p.enums h.en (ts.length + 2) ts pg0 (by omega) hts
  obtain ⟨ts2, h2, e2⟩ := decls_vars (len := len) (a := a) p.vars h.va (ts.length + 2 - p.enums.length) ts1 _ (by omega) h1
  try dsimp only at e1 e2
  have en : sameF sameEn p.enums p.enums = true := sameF_self (fun x => by unfold sameEn; rw [sameF_self (fun y => by unfold sameSt; simp)]; simp) _
  have va : sameF sameVr p.vars p.vars = true := sameF_self (fun x => by unfold sameVr; simp) _
  rcases decls_procs (len := len) (a := a) p.procs h.pr (ts.length + 2 - p.enums.length - p.vars.length) ts2 ⟨pg0.enums ++ p.enums, pg0.vars ++ p.vars, pg0.procs, pg0.main⟩ (by omega) h2 with ⟨ts3, l', h3, k3, e3⟩ | ⟨a', q', e3, hn⟩
  · obtain ⟨t, ts3, rfl, ht, h3⟩ := map_cons h3
    have ht := (tk_wd ht).2.1
    dsimp only at e3
    rw [e1, e2, e3, decls_stop _ _ (fun h => by have := h.2; rw [isF_hit ht] at this; cases this)]
    dsimp only
    rw [exp_hit ht]
    rcases rd_blkE (len := len) (a := a) (R := []) h.ma h3 with ⟨ts4, x, e4, h5, h6⟩ | ⟨a', x, e4, hn⟩
    · rw [e4]
      have : ts4 = [] := List.map_eq_nil_iff.1 h5
      subst this
      refine .inl ⟨_, rfl, ?_⟩
      unfold samePg
      simp only [pg0, List.nil_append, en, va, k3, h6, Bool.and_self]
    · rw [e4]
      exact .inr ⟨a', _, rfl, fun hb => hn hb.2⟩
  · rw [e1, e2, e3]
    dsimp only
    rw [exp_fault (by decide) (by decide)]
    obtain ⟨l, hl⟩ := blk_fault (len := len) 18 (by decide) 0 a'
    unfold blkE
    rw [hl]
    exact .inr ⟨a', _, rfl, fun hb => hn hb.1⟩
/-- What is printed is read as it, or something is too deep, or it is too long. -/
theorem parse_print {p : Pg} (h : OkP p) : (4096 < (printF Lib.itoa p).length ∧ (parseT (printF Lib.itoa p)).2.2 = 111) ∨ (∃ p', parseT (printF Lib.itoa p) = (p', (printF Lib.itoa p).length, 0) ∧ (printF Lib.itoa p).length ≤ 4096 ∧ samePg p p' = true) ∨ ((parseT (printF Lib.itoa p)).2.2 = 131 ∧ (printF Lib.itoa p).length ≤ 4096 ∧ ¬ ((∀ q ∈ p.procs, bdP q) ∧ (depB p.main ≤ 15 ∧ flatB p.main))) := by
  by_cases hl : 4096 < (printF Lib.itoa p).length
  · refine .inl ⟨hl, ?_⟩
    unfold parseT readT lexS
    rw [if_pos hl]
    rfl
  · obtain ⟨ts, h1, h2⟩ := lexS_of (lx_prog h) (by omega)
    refine .inr ?_
    unfold parseT readT
    rw [h1]
    dsimp only
    rw [if_neg (by decide)]
    rcases rd_prog (len := (printF Lib.itoa p).length) (a := 0) h h2 with ⟨p', e1, e2⟩ | ⟨a', p', e1, hn⟩
    · rw [e1]
      exact .inl ⟨p', rfl, by omega, e2⟩
    · rw [e1]
      refine .inr ⟨rfl, by omega, hn⟩
end
end Go.Proofs.YteaongdlbleehaaGreatDoor

/- The parse layer: what is read is not printed too long, and has what it must. -/
namespace Go.Proofs.YteaongdlbleehaaGreatDoor
section
variable {e x y : Ex} {s : St} {l : List St} {d M K : Nat}
theorem word_len {w : Bs} (h : WordB w) : w.length ≤ 16 := by
  obtain ⟨c, r, rfl, -, -, hr⟩ := h
  simp only [List.length_cons]; omega
theorem teC_len (e : Ex) : (teC e).length ≤ (textE Lib.itoa e).length + 2 := by
  unfold teC clo
  split
  · simp only [List.length_append, List.length_cons, List.length_nil]; omega
  · dsimp only; omega
theorem len_ex (h : OkE e) : (textE Lib.itoa e).length ≤ 60 * szE e := by
  induction h with
  | @num n p h0 h1 =>
    have := Lib.itoa_length_le n (by omega) (by omega)
    rw [te_num, sz_nil]; omega
  | @name nm p h =>
    have := word_len h.1
    rw [te_name, sz_nil]; omega
  | @at_ nm x p h hx ih =>
    have := word_len h.1
    rw [te_at, sz_one]
    simp only [List.length_append, List.length_cons, List.length_nil]; omega
  | @const o p h =>
    rw [te_const h, sz_nil]
    rcases h with rfl | rfl <;> decide
  | @one o x p h hx ih =>
    have := teC_len x
    rw [sz_one]
    rcases h with rfl | rfl
    · rw [te_neg]; simp only [List.length_append, List.length_cons, List.length_nil]; omega
    · rw [te_not]; simp only [List.length_cons]; omega
  | @two o x y p h hx hy ihx ihy =>
    have h1 := teC_len x
    have h2 := teC_len y
    have h3 : o.length ≤ 2 := by rcases twos_cases h with rfl | rfl | rfl | rfl | rfl | rfl | rfl | rfl | rfl | rfl | rfl | rfl <;> decide
    rw [te_two h, sz_two]
    simp only [List.length_append, List.length_cons, List.length_nil]; omega
theorem indS_len (d : Nat) : (ind d).length = 2 * d := by
  induction d with
  | zero => rfl
  | succ d ih => simp only [ind, List.length_append, List.length_cons, List.length_nil, ih]; omega
theorem blockF_len (d : Nat) (rows : Bs) : (blockF d rows).length = rows.length + 2 * d + 4 := by
  unfold blockF
  simp only [List.length_append, List.length_cons, List.length_nil, indS_len]; omega
theorem szS_pos (s : St) : 1 ≤ szS s := by cases s; simp only [szS]; omega
theorem len_rows (h : ∀ s ∈ l, ∀ d, d + szS s ≤ M → (textS Lib.itoa s d).length + 2 * d + 1 ≤ szS s * K) (d : Nat) (hd : d + szB l ≤ M) : (textB Lib.itoa l d).length ≤ szB l * K := by
  induction l with
  | nil => simp only [textB, List.length_nil]; omega
  | cons s l ih =>
    simp only [szB] at hd
    have h1 := h s (List.mem_cons_self ..) d (by omega)
    have h2 := ih (fun x hx => h x (List.mem_cons_of_mem _ hx)) (by omega)
    simp only [textB, szB, List.length_append, List.length_cons, List.length_nil, indS_len, Nat.add_mul]
    omega
theorem sz_k (hK : 60 ≤ K) (n : Nat) : 60 * n ≤ n * K := by rw [Nat.mul_comm]; exact Nat.mul_le_mul_left n hK
theorem len_st (h : OkS s) (hK : 6 * M + 100 ≤ K) : ∀ d, d + szS s ≤ M → (textS Lib.itoa s d).length + 2 * d + 1 ≤ szS s * K := by
  have k := sz_k (show 60 ≤ K by omega)
  induction h with
  | @set nm e p hN he =>
    intro d hd
    rw [szS_mk, szL_one, szB_nil] at hd ⊢
    have h1 := word_len hN.1
    have h2 := len_ex he
    have h3 := k (szE e)
    rw [ts_set]
    simp only [List.length_append, List.length_cons, List.length_nil, Nat.add_zero, Nat.add_mul, Nat.one_mul]; omega
  | @put nm e f p hN he hf =>
    intro d hd
    rw [szS_mk, szL_two, szB_nil] at hd ⊢
    have h1 := word_len hN.1
    have h2 := len_ex he
    have h3 := k (szE e)
    have h4 := len_ex hf
    have h5 := k (szE f)
    rw [ts_put]
    simp only [List.length_append, List.length_cons, List.length_nil, Nat.add_zero, Nat.add_mul, Nat.one_mul]; omega
  | @inp nm p hN =>
    intro d hd
    rw [szS_mk, szL_nil, szB_nil] at hd ⊢
    have h1 := word_len hN.1
    have h6 : sInput.length = 5 := rfl
    rw [ts_inp]
    simp only [List.length_append, List.length_cons, List.length_nil, Nat.add_zero, Nat.one_mul]; omega
  | @inps nm e f p hN he hf =>
    intro d hd
    rw [szS_mk, szL_two, szB_nil] at hd ⊢
    have h1 := word_len hN.1
    have h2 := len_ex he
    have h3 := k (szE e)
    have h4 := len_ex hf
    have h5 := k (szE f)
    have h6 : sInput.length = 5 := rfl
    rw [ts_inps]
    simp only [List.length_append, List.length_cons, List.length_nil, Nat.add_zero, Nat.add_mul, Nat.one_mul]; omega
  | @if_ e A B p he hA hB ihA ihB =>
    intro d hd
    rw [szS_mk, szL_one] at hd ⊢
    have h2 := len_ex he
    have h3 := k (szE e)
    have h4 := len_rows ihA (d + 1) (by omega)
    have h5 := len_rows ihB (d + 1) (by omega)
    have h6 : sIf.length = 2 := rfl
    have h7 : tElse.length = 4 := rfl
    rw [ts_if]
    split
    · simp only [List.length_append, List.length_cons, List.length_nil, blockF_len, Nat.add_zero, Nat.add_mul, Nat.one_mul]; omega
    · simp only [List.length_append, List.length_cons, List.length_nil, blockF_len, Nat.add_mul, Nat.one_mul]; omega
  | @while_ e A p he hA ihA =>
    intro d hd
    rw [szS_mk, szL_one, szB_nil] at hd ⊢
    have h2 := len_ex he
    have h3 := k (szE e)
    have h4 := len_rows ihA (d + 1) (by omega)
    have h6 : sWhile.length = 5 := rfl
    rw [ts_while]
    simp only [List.length_append, List.length_cons, List.length_nil, blockF_len, Nat.add_zero, Nat.add_mul, Nat.one_mul]; omega
  | @claim o e p ho he =>
    intro d hd
    rw [szS_mk, szL_one, szB_nil] at hd ⊢
    have h2 := len_ex he
    have h3 := k (szE e)
    have h6 : o.length ≤ 6 := by rcases ho with rfl | rfl <;> decide
    rw [ts_claim ho]
    simp only [List.length_append, List.length_cons, List.length_nil, Nat.add_zero, Nat.add_mul, Nat.one_mul]; omega
  | @call nm p hN =>
    intro d hd
    rw [szS_mk, szL_nil, szB_nil] at hd ⊢
    have h1 := word_len hN.1
    have h6 : sCall.length = 4 := rfl
    rw [ts_call]
    simp only [List.length_append, List.length_cons, List.length_nil, Nat.add_zero, Nat.one_mul]; omega
  | @skip p =>
    intro d hd
    rw [szS_mk, szL_nil, szB_nil] at hd ⊢
    have h6 : sSkip.length = 4 := rfl
    rw [ts_skip]
    simp only [List.length_append, List.length_cons, List.length_nil, Nat.add_zero, Nat.one_mul]; omega
theorem len_blk (h : OkB l) (hs : szB l ≤ 4096) : (textB Lib.itoa l 1).length ≤ szB l * 24700 :=
  len_rows (M := 4097) (fun s hs d hd => len_st (M := 4097) (h s hs) (by decide) d hd) 1 (by omega)
theorem flatW_le {α : Type} {g : α → Bs} {w : α → Nat} (l : List α) (h : ∀ x ∈ l, (g x).length ≤ 24800 * w x) : (l.flatMap g).length ≤ 24800 * (l.map w).sum := by
  induction l with
  | nil => exact Nat.zero_le _
  | cons x l ih =>
    have h1 := h x (List.mem_cons_self ..)
    have h2 := ih fun y hy => h y (List.mem_cons_of_mem _ hy)
    rw [List.flatMap_cons, List.map_cons, List.sum_cons, List.length_append]
    omega
theorem names_len (r : List ByteArray) : ∀ n : ByteArray, (∀ m ∈ n :: r, NameB m.data.toList) → (List.intercalate [44, 32] ((n :: r).map (·.data.toList)) : Bs).length ≤ 18 * (r.length + 1) := by
  induction r with
  | nil =>
    intro n h
    have := word_len (h n (List.mem_cons_self ..)).1
    simp [List.intercalate]
    have e : n.data.toList.length = n.size := rfl
    omega
  | cons m r ih =>
    intro n h
    have h1 := word_len (h n (List.mem_cons_self ..)).1
    have h2 := ih m fun x hx => h x (List.mem_cons_of_mem _ hx)
    have e : (List.intercalate [44, 32] ((n :: m :: r).map (·.data.toList)) : Bs) = n.data.toList ++ ([44, 32] ++ List.intercalate [44, 32] ((m :: r).map (·.data.toList))) := by simp [List.intercalate]
    rw [e]
    simp only [List.length_append, List.length_cons, List.length_nil] at h2 ⊢
    omega
theorem ones_sum {α : Type} (l : List α) : (l.map fun _ => 1).sum = l.length := by
  induction l with
  | nil => rfl
  | cons x l ih => rw [List.map_cons, List.sum_cons, ih, List.length_cons]; omega
/-- What is printed of a program that is not too great. -/
theorem len_prog {p : Pg} (h : OkP p) (hw : wtQ p + szB p.main ≤ 4096) : (printF Lib.itoa p).length ≤ 1000000000 := by
  unfold wtQ at hw
  have sz_in : ∀ (l : List (ByteArray × List St)), ∀ q ∈ l, szB q.2 ≤ wtP l := fun l => by
    induction l with
    | nil => intro q hq; cases hq
    | cons x l ih =>
      intro q hq
      unfold wtP at ih ⊢
      rw [List.map_cons, List.sum_cons]
      rcases List.mem_cons.1 hq with rfl | hq
      · omega
      · have := ih q hq; omega
  have l1 : (p.enums.flatMap enumF).length ≤ 24800 * wtE p.enums := flatW_le (w := fun e : ByteArray × List ByteArray => 1 + e.2.length) _ fun e he => by
    obtain ⟨h1, h2, h3⟩ := h.en e he
    obtain ⟨nm, l⟩ := e
    have hn := word_len h1.1
    cases l with
    | nil => exact absurd rfl h2
    | cons n r =>
      have := names_len r n h3
      unfold enumF
      simp only [List.length_append, List.length_cons, List.length_nil] at this hn ⊢
      omega
  have l2 : (p.vars.flatMap (varF Lib.itoa)).length ≤ 24800 * (p.vars.map fun _ => 1).sum := flatW_le (w := fun _ => 1) _ fun v hv => by
    obtain ⟨h1, h2, h3, h4⟩ := h.va v hv
    have hn := word_len h1.1
    have ht : v.2.1.data.toList.length ≤ 16 := by
      rcases h2 with h2 | h2 | h2
      · rw [h2]; decide
      · rw [h2]; decide
      · exact word_len h2.1
    have hd := Lib.itoa_length_le v.2.2 (by omega) (by omega)
    unfold varF
    split <;> (simp only [List.length_append, List.length_cons, List.length_nil]; omega)
  have l3 : (p.procs.flatMap (procF Lib.itoa)).length ≤ 24800 * wtP p.procs := flatW_le (w := fun x : ByteArray × List St => 1 + szB x.2) _ fun q hq => by
    obtain ⟨h1, h2⟩ := h.pr q hq
    have hn := word_len h1.1
    have hs := sz_in _ q hq
    have hb := len_blk h2 (by omega)
    unfold procF
    simp only [List.length_append, List.length_cons, List.length_nil, blockF_len]
    omega
  have l4 := len_blk h.ma (by omega)
  have l5 := ones_sum p.vars
  unfold printF
  simp only [List.length_append, List.length_cons, List.length_nil, blockF_len]
  omega
/-! ### It has what it must -/
theorem whole_ex (h : OkE e) : wholeE e = true := by
  induction h with
  | @num n p h0 h1 =>
    simp only [wholeE, wholeL, Bool.and_true, headOk, manyO, bA_l]
    simp [oNum, h0]
  | @name nm p h => simp only [wholeE, wholeL, Bool.and_true, headOk, manyO, bA_l]; rfl
  | @at_ nm x p h hx ih => simp only [wholeE, wholeL, ih, Bool.and_true, headOk, manyO, bA_l]; rfl
  | @const o p h => rcases h with rfl | rfl <;> (simp only [wholeE, wholeL, Bool.and_true, headOk, manyO, bA_l]; rfl)
  | @one o x p h hx ih => rcases h with rfl | rfl <;> (simp only [wholeE, wholeL, ih, Bool.and_true, headOk, manyO, bA_l]; rfl)
  | @two o x y p h hx hy ihx ihy =>
    rcases twos_cases h with rfl | rfl | rfl | rfl | rfl | rfl | rfl | rfl | rfl | rfl | rfl | rfl <;> (simp only [wholeE, wholeL, ihx, ihy, Bool.and_true, headOk, manyO, bA_l, ofTwoO]; rfl)
theorem wholeB_of (h : ∀ s ∈ l, wholeS s = true) : wholeB l = true := by
  induction l with
  | nil => rfl
  | cons s l ih => simp only [wholeB, h s (List.mem_cons_self ..), ih fun x hx => h x (List.mem_cons_of_mem _ hx), Bool.and_self]
theorem whole_st (h : OkS s) : wholeS s = true := by
  induction h with
  | @set nm e p hN he => simp only [wholeS, wholeL, wholeB, whole_ex he, Bool.and_true, headS, manyS, bA_l]; rfl
  | @put nm e f p hN he hf => simp only [wholeS, wholeL, wholeB, whole_ex he, whole_ex hf, Bool.and_true, headS, manyS, bA_l]; rfl
  | @inp nm p hN => simp only [wholeS, wholeL, wholeB, Bool.and_true, headS, manyS, bA_l]; rfl
  | @inps nm e f p hN he hf => simp only [wholeS, wholeL, wholeB, whole_ex he, whole_ex hf, Bool.and_true, headS, manyS, bA_l]; rfl
  | @if_ e A B p he hA hB ihA ihB => simp only [wholeS, wholeL, wholeB_of ihA, wholeB_of ihB, whole_ex he, Bool.and_true, headS, manyS, bA_l]; rfl
  | @while_ e A p he hA ihA => simp only [wholeS, wholeL, wholeB, wholeB_of ihA, whole_ex he, Bool.and_true, headS, manyS, bA_l]; simp [sWhile, sIf, sSet, sAssert, sAssume]
  | @claim o e p ho he => rcases ho with rfl | rfl <;> (simp only [wholeS, wholeL, wholeB, whole_ex he, Bool.and_true, headS, manyS, bA_l]; rfl)
  | @call nm p hN => simp only [wholeS, wholeL, wholeB, Bool.and_true, headS, manyS, bA_l]; rfl
  | @skip p => simp only [wholeS, wholeL, wholeB, Bool.and_true, headS, manyS, bA_l]; rfl
theorem whole_prog {p : Pg} (h : OkP p) : wholeP p = true := by
  unfold wholeP
  rw [wholeB_of fun s hs => whole_st (h.ma s hs), Bool.and_true, List.all_eq_true]
  exact fun q hq => wholeB_of fun s hs => whole_st ((h.pr q hq).2 s hs)
end
end Go.Proofs.YteaongdlbleehaaGreatDoor
