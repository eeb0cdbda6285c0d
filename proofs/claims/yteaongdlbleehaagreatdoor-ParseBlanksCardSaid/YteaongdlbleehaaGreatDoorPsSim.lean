/- The parse layer: where tokens stand is of no account for what is read. -/
import Derived.Test.YteaongdlbleehaaGreatDoorGPsOkP
namespace Go.Proofs.YteaongdlbleehaaGreatDoor
section
variable {ts us : List Tok} {len len' f d e : Nat} {s s' : PS} {w : Bs}
/-- Where the j-th token stands; of none the place behind all. -/
def posT (len : Nat) (l : List Tok) (j : Nat) : Nat := (l[j]?.map Tok.at_).getD len
/-- Two parsers that go on alike, over tokens that say the same. -/
def Rl (ts us : List Tok) (len len' : Nat) (s s' : PS) : Prop := ts.map tk3 = us.map tk3 ∧
  ((s.no = 0 ∧ s'.no = 0 ∧ ∃ i, s.ts = ts.drop i ∧ s'.ts = us.drop i) ∨ (s.no ≠ 0 ∧ s'.no = s.no ∧ s.ts = [] ∧ s'.ts = [] ∧ ∃ j, s.at_ = posT len ts j ∧ s'.at_ = posT len' us j))
theorem nxt_drop {i a e : Nat} : (nxt len ⟨ts.drop i, a, e⟩).at_ = posT len ts i := by
  unfold nxt posT
  cases h : ts.drop i with
  | nil =>
    have : ts[i]? = none := by rw [List.getElem?_eq_none_iff]; have := congrArg List.length h; rw [List.length_drop, List.length_nil] at this; omega
    rw [this]; rfl
  | cons t r =>
    have : ts[i]? = some t := by rw [← List.head?_drop, h]; rfl
    rw [this]; rfl
theorem Rl.maps (h : Rl ts us len len' s s') : s.ts.map tk3 = s'.ts.map tk3 := by
  obtain ⟨H, ⟨-, -, i, e1, e2⟩ | ⟨-, -, e1, e2, -⟩⟩ := h
  · rw [e1, e2, List.map_drop, List.map_drop, H]
  · rw [e1, e2]
theorem Rl.len_eq (h : Rl ts us len len' s s') : s'.ts.length = s.ts.length := by
  have := congrArg List.length h.maps
  rw [List.length_map, List.length_map] at this
  exact this.symm
theorem Rl.no_eq (h : Rl ts us len len' s s') : s'.no = s.no := by
  obtain ⟨H, ⟨e1, e2, -⟩ | ⟨-, e2, -⟩⟩ := h
  · rw [e1, e2]
  · exact e2
theorem Rl.nxt_eq (h : Rl ts us len len' s s') : (nxt len' s').text = (nxt len s).text ∧ (nxt len' s').kind = (nxt len s).kind ∧ (nxt len' s').n = (nxt len s).n := by
  have := h.maps
  unfold nxt
  cases h1 : s.ts with
  | nil =>
    rw [h1] at this
    cases h2 : s'.ts with
    | nil => exact ⟨rfl, rfl, rfl⟩
    | cons t r => rw [h2] at this; simp at this
  | cons t r =>
    rw [h1] at this
    cases h2 : s'.ts with
    | nil => rw [h2] at this; simp at this
    | cons t' r' =>
      rw [h2] at this
      simp only [List.map_cons, List.cons.injEq, tk3, Prod.mk.injEq] at this
      exact ⟨this.1.2.1.symm, this.1.1.symm, this.1.2.2.symm⟩
theorem Rl.take_ (h : Rl ts us len len' s s') : Rl ts us len len' (takeF s) (takeF s') := by
  obtain ⟨H, ⟨e1, e2, i, e3, e4⟩ | ⟨e1, e2, e3, e4, e5⟩⟩ := h
  · exact ⟨H, .inl ⟨e1, e2, i + 1, by unfold takeF; rw [e3]; exact List.tail_drop, by unfold takeF; rw [e4]; exact List.tail_drop⟩⟩
  · exact ⟨H, .inr ⟨e1, e2, by unfold takeF; rw [e3]; rfl, by unfold takeF; rw [e4]; rfl, e5⟩⟩
theorem Rl.fail_ (h : Rl ts us len len' s s') (he : e ≠ 0) : Rl ts us len len' (failF len e s) (failF len' e s') := by
  obtain ⟨H, ⟨e1, e2, i, e3, e4⟩ | ⟨e1, e2, e3, e4, e5⟩⟩ := h
  · obtain ⟨st, sa, sn⟩ := s
    obtain ⟨st', sa', sn'⟩ := s'
    dsimp only at e1 e2 e3 e4
    subst e1 e2 e3 e4
    exact ⟨H, .inr ⟨he, rfl, rfl, rfl, i, nxt_drop, nxt_drop⟩⟩
  · have q1 : failF len e s = s := by unfold failF; rw [if_neg e1]
    have q2 : failF len' e s' = s' := by unfold failF; rw [if_neg (by rw [e2]; exact e1)]
    rw [q1, q2]
    exact ⟨H, .inr ⟨e1, e2, e3, e4, e5⟩⟩
theorem Rl.is_ (h : Rl ts us len len' s s') (w : Bs) : isF len' w s' = isF len w s := by unfold isF; rw [h.nxt_eq.1]
theorem Rl.nm_ (h : Rl ts us len len' s s') : isNm (nxt len' s') = isNm (nxt len s) := by unfold isNm; rw [h.nxt_eq.1, h.nxt_eq.2.1]
theorem Rl.exp_ (h : Rl ts us len len' s s') (w : Bs) : Rl ts us len len' (expF len w s) (expF len' w s') := by
  unfold expF
  rw [h.is_ w]
  split
  · exact h.take_
  · exact h.fail_ (by decide)
theorem Rl.enter_ (h : Rl ts us len len' s s') (d : Nat) : Rl ts us len len' (enterF len d s) (enterF len' d s') := by
  unfold enterF
  split
  · exact (h.fail_ (by decide)).take_
  · exact h.take_
theorem Rl.name_ (h : Rl ts us len len' s s') : Rl ts us len len' (nameF len s).1 (nameF len' s').1 ∧ (nameF len' s').2 = (nameF len s).2 := by
  unfold nameF
  rw [h.nm_]
  split
  · exact ⟨h.take_, h.nxt_eq.1⟩
  · exact ⟨h.fail_ (by decide), rfl⟩
/-! ### Expressions -/
def MdR : Md → Md → Prop
  | .part, .part => True
  | .parts o, .parts o' => o' = o
  | .loop o e, .loop o' e' => o' = o ∧ sameE e e' = true
  | _, _ => False
def SimX (ts us : List Tok) (len len' : Nat) (r r' : PS × Ex) : Prop := Rl ts us len len' r.1 r'.1 ∧ sameE r.2 r'.2 = true
theorem same_mk {o o' nm nm' : ByteArray} {n n' p p' : Int} {l l' : List Ex} (h1 : o' = o) (h2 : nm' = nm) (h3 : n' = n) (h4 : sameL l l' = true) : sameE (.mk o nm n l p) (.mk o' nm' n' l' p') = true := by
  subst h1 h2 h3
  exact sameE_refl_mk h4
theorem ex0_same : sameE ex0 ex0 = true := sameE_refl_mk rfl
theorem sim_ex (f : Nat) : ∀ m m' d s s', MdR m m' → Rl ts us len len' s s' → SimX ts us len len' (exF len f m d s) (exF len' f m' d s') := by
  induction f with
  | zero => exact fun m m' d s s' hm h => ⟨h, ex0_same⟩
  | succ f ih =>
    intro m m' d s s' hm h
    obtain ⟨h1, h2, h3⟩ := h.nxt_eq
    cases m with
    | part =>
      cases m' with
      | part =>
        simp only [exF]
        rw [h1, h2, h3, h.nm_, (h.take_).is_ [91]]
        split
        · obtain ⟨k1, k2⟩ := ih .part .part (d + 1) _ _ trivial (h.enter_ d)
          exact ⟨k1, same_mk rfl rfl rfl (sameL_one k2)⟩
        · split
          · obtain ⟨k1, k2⟩ := ih .part .part (d + 1) _ _ trivial (h.enter_ d)
            exact ⟨k1, same_mk rfl rfl rfl (sameL_one k2)⟩
          · split
            · obtain ⟨k1, k2⟩ := ih (.parts 1) (.parts 1) (d + 1) _ _ rfl (h.enter_ d)
              exact ⟨k1.exp_ _, k2⟩
            · split
              · exact ⟨h.take_, same_mk rfl rfl rfl rfl⟩
              · split
                · exact ⟨h.take_, same_mk rfl rfl rfl rfl⟩
                · split
                  · split
                    · obtain ⟨k1, k2⟩ := ih (.parts 1) (.parts 1) (d + 1) _ _ rfl (h.take_.enter_ d)
                      exact ⟨k1.exp_ _, same_mk rfl rfl rfl (sameL_one k2)⟩
                    · exact ⟨h.take_, same_mk rfl rfl rfl rfl⟩
                  · exact ⟨h.fail_ (by decide), ex0_same⟩
      | parts _ => exact hm.elim
      | loop _ _ => exact hm.elim
    | parts o =>
      cases m' with
      | parts o' =>
        have : o' = o := hm
        subst this
        simp only [exF]
        split
        · exact ih .part .part d s s' trivial h
        · obtain ⟨k1, k2⟩ := ih (.parts (o' + 1)) (.parts (o' + 1)) d s s' rfl h
          exact ih (.loop o' _) (.loop o' _) d _ _ ⟨rfl, k2⟩ k1
      | part => exact hm.elim
      | loop _ _ => exact hm.elim
    | loop o e =>
      cases m' with
      | loop o' e' =>
        obtain ⟨q1, q2⟩ : o' = o ∧ sameE e e' = true := hm
        subst q1
        simp only [exF]
        rw [h1]
        split
        · obtain ⟨k1, k2⟩ := ih (.parts (o' + 1)) (.parts (o' + 1)) d _ _ rfl h.take_
          split
          · exact ⟨k1, same_mk rfl rfl rfl (sameL_two q2 k2)⟩
          · exact ih (.loop o' _) (.loop o' _) d _ _ ⟨rfl, same_mk rfl rfl rfl (sameL_two q2 k2)⟩ k1
        · exact ⟨h, q2⟩
      | part => exact hm.elim
      | parts _ => exact hm.elim
theorem sim_exE (h : Rl ts us len len' s s') : SimX ts us len len' (exE len s) (exE len' s') := by
  unfold exE
  rw [h.len_eq]
  exact sim_ex _ (.parts 1) (.parts 1) 0 s s' rfl h
/-! ### Statements -/
def SimS (ts us : List Tok) (len len' : Nat) (r r' : PS × St) : Prop := Rl ts us len len' r.1 r'.1 ∧ sameS r.2 r'.2 = true
def SimB (ts us : List Tok) (len len' : Nat) (r r' : PS × List St) : Prop := Rl ts us len len' r.1 r'.1 ∧ sameB r.2 r'.2 = true
def SimK (ts us : List Tok) (len len' : Nat) (blk blk' : PS → PS × List St) : Prop := ∀ s s', Rl ts us len len' s s' → SimB ts us len len' (blk s) (blk' s')
variable {blk blk' : PS → PS × List St} {nm op : Bs} {p p' : Int}
theorem exE_sim (h : Rl ts us len len' s s') : ∃ r r', exE len s = r ∧ exE len' s' = r' ∧ Rl ts us len len' r.1 r'.1 ∧ sameE r.2 r'.2 = true := ⟨_, _, rfl, rfl, (sim_exE h).1, (sim_exE h).2⟩
theorem blk_sim (hb : SimK ts us len len' blk blk') (h : Rl ts us len len' s s') : ∃ r r', blk s = r ∧ blk' s' = r' ∧ Rl ts us len len' r.1 r'.1 ∧ sameB r.2 r'.2 = true := ⟨_, _, rfl, rfl, (hb _ _ h).1, (hb _ _ h).2⟩
theorem sim_put (h : Rl ts us len len' s s') : SimS ts us len len' (putS len nm p s) (putS len' nm p' s') := by
  obtain ⟨r1, q1, e1, d1, k1, k2⟩ := exE_sim h
  obtain ⟨r3, q3, e3, d3, k3, k4⟩ := exE_sim ((k1.exp_ [93]).exp_ [61])
  unfold putS
  rw [e1, d1, e3, d3]
  exact ⟨k3.exp_ _, sameS_mk (sameL_two k2 k4) rfl rfl⟩
theorem sim_input (h : Rl ts us len len' s s') : SimS ts us len len' (inputS len nm p s) (inputS len' nm p' s') := by
  obtain ⟨r1, q1, e1, d1, k1, k2⟩ := exE_sim h.take_
  obtain ⟨r3, q3, e3, d3, k3, k4⟩ := exE_sim (k1.exp_ [44])
  unfold inputS
  rw [h.is_, e1, d1, e3, d3]
  split
  · exact ⟨(k3.exp_ _).exp_ _, sameS_mk (sameL_two k2 k4) rfl rfl⟩
  · exact ⟨h.exp_ _, sameS_mk rfl rfl rfl⟩
theorem sim_change (h : Rl ts us len len' s s') : SimS ts us len len' (changeS len nm p s) (changeS len' nm p' s') := by
  obtain ⟨r1, q1, e1, d1, k1, k2⟩ := exE_sim (h.exp_ [61])
  unfold changeS
  rw [h.is_, (h.exp_ [61]).is_, e1, d1]
  split
  · exact sim_put h.take_
  · split
    · exact sim_input (h.exp_ [61]).take_
    · exact ⟨k1.exp_ _, sameS_mk (sameL_one k2) rfl rfl⟩
theorem sim_loop (hb : SimK ts us len len' blk blk') (h : Rl ts us len len' s s') : SimS ts us len len' (loopS len blk op p s) (loopS len' blk' op p' s') := by
  obtain ⟨r1, q1, e1, d1, k1, k2⟩ := exE_sim h
  obtain ⟨r2, q2, e2, d2, k3, k4⟩ := blk_sim hb k1
  unfold loopS
  rw [e1, d1, e2, d2]
  exact ⟨k3, sameS_mk (sameL_one k2) k4 rfl⟩
theorem sim_choice (hb : SimK ts us len len' blk blk') (h : Rl ts us len len' s s') : SimS ts us len len' (choiceS len blk op p s) (choiceS len' blk' op p' s') := by
  obtain ⟨r1, q1, e1, d1, k1, k2⟩ := exE_sim h
  obtain ⟨r2, q2, e2, d2, k3, k4⟩ := blk_sim hb k1
  obtain ⟨r3, q3, e3, d3, k5, k6⟩ := blk_sim hb k3.take_
  have hl := sim_loop (op := op) (p := p) (p' := p') hb h
  unfold choiceS
  rw [e1, d1, e2, d2, k3.is_]
  split
  · rw [e3, d3]
    exact ⟨k5, sameS_mk (sameL_one k2) k4 k6⟩
  · exact hl
theorem sim_stmt (hb : SimK ts us len len' blk blk') (h : Rl ts us len len' s s') : SimS ts us len len' (stmtS len blk s) (stmtS len' blk' s') := by
  obtain ⟨h1, h2, h3⟩ := h.nxt_eq
  have hk : keyF (nxt len' s') = keyF (nxt len s) := by unfold keyF; rw [h.nm_, h1]
  have ht := h.take_
  obtain ⟨r1, q1, e1, d1, k1, k2⟩ := exE_sim ht
  obtain ⟨k3, k4⟩ := ht.name_
  have hcl : ∀ o : Bs, SimS ts us len len' (claimS len o (nxt len s).at_ (takeF s)) (claimS len' o (nxt len' s').at_ (takeF s')) := fun o => by
    unfold claimS
    rw [e1, d1]
    exact ⟨k1.exp_ _, sameS_mk (sameL_one k2) rfl rfl⟩
  have hca : ∀ o : Bs, SimS ts us len len' (callS len o (nxt len s).at_ (takeF s)) (callS len' o (nxt len' s').at_ (takeF s')) := fun o => by
    unfold callS
    rw [k4]
    exact ⟨k3.exp_ _, sameS_mk rfl rfl rfl⟩
  clear e1 d1
  simp only [stmtS]
  rw [hk, h.nm_, h1]
  split
  · exact sim_change ht
  · split
    · exact sim_choice hb ht
    · split
      · exact sim_loop hb ht
      · split
        · exact hcl _
        · split
          · exact hca _
          · split
            · exact ⟨ht.exp_ _, sameS_mk rfl rfl rfl⟩
            · exact ⟨h.fail_ (by decide), sameS_mk rfl rfl rfl⟩
theorem sim_rows (hb : SimK ts us len len' blk blk') (f : Nat) : ∀ (s s' : PS) (l l' : List St), Rl ts us len len' s s' → sameB l l' = true → SimB ts us len len' (rowsS len blk f s l) (rowsS len' blk' f s' l') := by
  induction f with
  | zero => exact fun s s' l l' h hl => ⟨h, hl⟩
  | succ f ih =>
    intro s s' l l' h hl
    simp only [rowsS]
    rw [h.no_eq, h.is_]
    split
    · obtain ⟨k1, k2⟩ := sim_stmt hb h
      exact ih _ _ _ _ k1 (sameB_append hl k2)
    · exact ⟨h, hl⟩
theorem sim_open (h : Rl ts us len len' s s') (d : Nat) : Rl ts us len len' (openS len d s) (openS len' d s') := by
  unfold openS
  rw [h.is_]
  split
  · exact (h.fail_ (by decide)).exp_ _
  · exact h.exp_ _
theorem sim_blk (f : Nat) : ∀ d, SimK ts us len len' (blkS len f d) (blkS len' f d) := by
  induction f with
  | zero => exact fun d s s' h => ⟨h, rfl⟩
  | succ f ih =>
    intro d s s' h
    have ho := sim_open h d
    simp only [blkS]
    rw [ho.len_eq]
    obtain ⟨k1, k2⟩ := sim_rows (ih (d + 1)) ((openS len d s).ts.length + 2) _ _ [] [] ho rfl
    exact ⟨k1.exp_ _, k2⟩
/-! ### Programs -/
theorem sim_more (f : Nat) : ∀ (s s' : PS) (l : List ByteArray), Rl ts us len len' s s' → Rl ts us len len' (moreN len f s l).1 (moreN len' f s' l).1 ∧ (moreN len' f s' l).2 = (moreN len f s l).2 := by
  induction f with
  | zero => exact fun s s' l h => ⟨h, rfl⟩
  | succ f ih =>
    intro s s' l h
    simp only [moreN]
    rw [h.is_]
    split
    · obtain ⟨k1, k2⟩ := h.take_.name_
      rw [k2]
      exact ih _ _ _ k1
    · exact ⟨h, rfl⟩
theorem sim_enum (h : Rl ts us len len' s s') : Rl ts us len len' (enumP len s).1 (enumP len' s').1 ∧ (enumP len' s').2 = (enumP len s).2 := by
  unfold enumP
  obtain ⟨k1, k2⟩ := h.name_
  obtain ⟨k3, k4⟩ := (k1.exp_ [123]).name_
  simp only [k2, k4, k3.len_eq]
  obtain ⟨k5, k6⟩ := sim_more ((nameF len (expF len [123] (nameF len s).1)).1.ts.length + 1) _ _ [bA (nameF len (expF len [123] (nameF len s).1)).2] k3
  rw [k6]
  exact ⟨k5.exp_ _, rfl⟩
theorem sim_type (h : Rl ts us len len' s s') : Rl ts us len len' (typeP len s).1 (typeP len' s').1 ∧ (typeP len' s').2 = (typeP len s).2 := by
  unfold typeP
  rw [h.is_, h.is_]
  split
  · exact ⟨h.take_, h.nxt_eq.1⟩
  · exact h.name_
theorem sim_size (h : Rl ts us len len' s s') : Rl ts us len len' (sizeP len s).1 (sizeP len' s').1 ∧ (sizeP len' s').2 = (sizeP len s).2 := by
  unfold sizeP
  rw [h.nxt_eq.2.1, h.nxt_eq.2.2]
  split
  · exact ⟨h.take_, rfl⟩
  · exact ⟨h.fail_ (by decide), rfl⟩
theorem sim_var (h : Rl ts us len len' s s') : Rl ts us len len' (varP len s).1 (varP len' s').1 ∧ (varP len' s').2 = (varP len s).2 := by
  unfold varP
  obtain ⟨k1, k2⟩ := h.name_
  obtain ⟨k3, k4⟩ := sim_type (k1.exp_ [58])
  simp only [k2, k4, k3.is_]
  split
  · obtain ⟨k5, k6⟩ := sim_size k3.take_
    simp only [k6, and_true]
    exact (k5.exp_ _).exp_ _
  · exact ⟨k3.exp_ _, rfl⟩
def SimQ (q q' : Pg) : Prop := q'.enums = q.enums ∧ q'.vars = q.vars ∧ sameF samePr q.procs q'.procs = true
theorem sameF_snoc {α : Type} {g : α → α → Bool} {l l' : List α} {x y : α} (h : sameF g l l' = true) (hx : g x y = true) : sameF g (l ++ [x]) (l' ++ [y]) = true := by
  induction l generalizing l' with
  | nil =>
    cases l' with
    | nil => simp only [List.nil_append, sameF, hx, Bool.and_self]
    | cons => simp [sameF] at h
  | cons a l ih =>
    cases l' with
    | nil => simp [sameF] at h
    | cons b l' =>
      simp only [sameF, Bool.and_eq_true] at h
      simp only [List.cons_append, sameF, h.1, ih h.2, Bool.and_self]
theorem sim_decl {q q' : Pg} (hq : SimQ q q') (h : Rl ts us len len' s s') : Rl ts us len len' (declP len s q).1 (declP len' s' q').1 ∧ SimQ (declP len s q).2 (declP len' s' q').2 := by
  unfold declP
  rw [h.is_, h.is_, h.is_]
  split
  · obtain ⟨k1, k2⟩ := sim_enum h.take_
    rw [k2]
    exact ⟨k1, by dsimp only; rw [hq.1], hq.2.1, hq.2.2⟩
  · split
    · obtain ⟨k1, k2⟩ := sim_var h.take_
      rw [k2]
      exact ⟨k1, hq.1, by dsimp only; rw [hq.2.1], hq.2.2⟩
    · split
      · obtain ⟨k1, k2⟩ := h.take_.name_
        obtain ⟨k3, k4⟩ := sim_blk 18 0 _ _ k1
        refine ⟨k3, hq.1, hq.2.1, sameF_snoc hq.2.2 ?_⟩
        unfold samePr procP
        dsimp only
        rw [k2]
        unfold blkE
        rw [k4]
        simp
      · exact ⟨h.fail_ (by decide), hq⟩
theorem sim_decls (f : Nat) : ∀ (s s' : PS) (q q' : Pg), Rl ts us len len' s s' → SimQ q q' → Rl ts us len len' (declsP len f s q).1 (declsP len' f s' q').1 ∧ SimQ (declsP len f s q).2 (declsP len' f s' q').2 := by
  induction f with
  | zero => exact fun s s' q q' h hq => ⟨h, hq⟩
  | succ f ih =>
    intro s s' q q' h hq
    simp only [declsP]
    rw [h.no_eq, h.is_]
    split
    · obtain ⟨k1, k2⟩ := sim_decl hq h
      exact ih _ _ _ _ k1 k2
    · exact ⟨h, hq⟩
theorem sim_prog (h : Rl ts us len len' s s') : Rl ts us len len' (progP len s).1 (progP len' s').1 ∧ samePg (progP len s).2 (progP len' s').2 = true := by
  unfold progP
  obtain ⟨k1, k2⟩ := sim_decls (s.ts.length + 2) s s' pg0 pg0 h ⟨rfl, rfl, rfl⟩
  obtain ⟨k3, k4⟩ := sim_blk 18 0 _ _ (k1.exp_ tMain)
  rw [h.len_eq]
  refine ⟨k3, ?_⟩
  unfold samePg
  dsimp only
  have en := fun l => sameF_self (g := sameEn) (fun x => by unfold sameEn; rw [sameF_self (fun y => by unfold sameSt; simp)]; simp) l
  have va := fun l => sameF_self (g := sameVr) (fun x => by unfold sameVr; simp) l
  rw [k2.1, k2.2.1, en, va, k2.2.2]
  unfold blkE
  rw [k4]
  rfl
/-- Both end alike: in the same tree, or at the same token. -/
theorem sim_end (H : ts.map tk3 = us.map tk3) : (endP len' (progP len' ⟨us, 0, 0⟩)).no = (endP len (progP len ⟨ts, 0, 0⟩)).no ∧ samePg (progP len ⟨ts, 0, 0⟩).2 (progP len' ⟨us, 0, 0⟩).2 = true ∧ ((endP len (progP len ⟨ts, 0, 0⟩)).no ≠ 0 → ∃ j, (endP len (progP len ⟨ts, 0, 0⟩)).at_ = posT len ts j ∧ (endP len' (progP len' ⟨us, 0, 0⟩)).at_ = posT len' us j) := by
  obtain ⟨k1, k2⟩ := sim_prog (s := ⟨ts, 0, 0⟩) (s' := ⟨us, 0, 0⟩) (len := len) (len' := len') (ts := ts) (us := us) ⟨H, .inl ⟨rfl, rfl, 0, rfl, rfl⟩⟩
  have k3 : Rl ts us len len' (endP len (progP len ⟨ts, 0, 0⟩)) (endP len' (progP len' ⟨us, 0, 0⟩)) := by
    unfold endP
    have : (progP len' ⟨us, 0, 0⟩).1.ts.isEmpty = (progP len ⟨ts, 0, 0⟩).1.ts.isEmpty := by
      have := k1.len_eq
      rw [Bool.eq_iff_iff, List.isEmpty_iff_length_eq_zero, List.isEmpty_iff_length_eq_zero, this]
    rw [this]
    split
    · exact k1
    · exact k1.fail_ (by decide)
  refine ⟨k3.no_eq, k2, fun hn => ?_⟩
  obtain ⟨-, ⟨e1, -⟩ | ⟨-, -, -, -, h⟩⟩ := k3
  · exact absurd e1 hn
  · exact h
end
end Go.Proofs.YteaongdlbleehaaGreatDoor
