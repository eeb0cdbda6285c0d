/- The parse layer: a text, and its tokens each on a line of its own, are read as the same. -/
import Derived.Test.YteaongdlbleehaaGreatDoorPsBl
import Derived.Test.YteaongdlbleehaaGreatDoorPsSim
namespace Go.Proofs.YteaongdlbleehaaGreatDoor
/-- The last place below k where the token stands at a; -1: none. -/
def scanT (l : List Tok) (a : Nat) : Nat → Int
  | 0 => -1
  | k + 1 => if l[k]?.map Tok.at_ = some a then (k : Int) else scanT l a k
section
variable {l : Bs} {ts us : List Tok} {len len' j k : Nat}
theorem posT_iff (h : PosL len ts) : ts[k]?.map Tok.at_ = some (posT len ts j) ↔ (k = j ∧ j < ts.length) := by
  obtain ⟨hp, hl⟩ := h
  rw [List.pairwise_iff_getElem] at hp
  refine ⟨fun q => ?_, fun ⟨e, hj⟩ => ?_⟩
  · cases hk : ts[k]? with
    | none => rw [hk] at q; cases q
    | some t =>
      obtain ⟨hkl, hkt⟩ := List.getElem?_eq_some_iff.1 hk
      rw [hk] at q
      simp only [Option.map_some, Option.some.injEq] at q
      cases hj : ts[j]? with
      | none =>
        unfold posT at q
        rw [hj] at q
        have := hl t (by rw [← hkt]; exact List.getElem_mem _)
        simp only [Option.map_none, Option.getD_none] at q
        omega
      | some u =>
        obtain ⟨hjl, hju⟩ := List.getElem?_eq_some_iff.1 hj
        unfold posT at q
        rw [hj] at q
        simp only [Option.map_some, Option.getD_some] at q
        refine ⟨?_, hjl⟩
        rcases Nat.lt_trichotomy k j with h | h | h
        · have := hp k j (by simpa using hkl) (by simpa using hjl) h
          simp only [List.getElem_map, hkt, hju] at this
          omega
        · exact h
        · have := hp j k (by simpa using hjl) (by simpa using hkl) h
          simp only [List.getElem_map, hkt, hju] at this
          omega
  · subst e
    unfold posT
    rw [List.getElem?_eq_getElem hj]
    rfl
theorem scan_eq (h1 : PosL len ts) (h2 : PosL len' us) (hl : us.length = ts.length) (k : Nat) : scanT us (posT len' us j) k = scanT ts (posT len ts j) k := by
  induction k with
  | zero => rfl
  | succ k ih =>
    simp only [scanT]
    rw [ih]
    by_cases q : k = j ∧ j < ts.length
    · rw [if_pos ((posT_iff h1).2 q), if_pos ((posT_iff h2).2 (by rw [hl]; exact q))]
    · rw [if_neg (fun h => q ((posT_iff h1).1 h)), if_neg (fun h => q (by have := (posT_iff h2).1 h; rw [hl] at this; exact this))]
theorem blanks_lex {n : Nat} (hlx : lexS l = (ts, n, 0)) (hS : (lineT ts).length ≤ 4096) : ∃ us, lexS (lineT ts) = (us, (lineT ts).length, 0) ∧ us.map tk3 = ts.map tk3 ∧ PosL l.length ts ∧ PosL (lineT ts).length us := by
  obtain ⟨h1, h2⟩ := lexS_again (l := l) (by rw [hlx])
  rw [hlx] at h1 h2
  obtain ⟨us, h3, h4⟩ := lexS_of (lines_lx h1) hS
  obtain ⟨-, h6⟩ := lexS_again (l := lineT ts) (by rw [h3])
  rw [h3] at h6
  exact ⟨us, h3, h4, h2, h6⟩
theorem blanks_parse {n m : Nat} (hlx : lexS l = (ts, n, 0)) {S : Bs} (hlx2 : lexS S = (us, m, 0)) (H : us.map tk3 = ts.map tk3) (h1 : PosL l.length ts) (h2 : PosL S.length us) :
    (parseT S).2.2 = (parseT l).2.2 ∧ samePg (parseT l).1 (parseT S).1 = true ∧ ((parseT l).2.2 = 0 → (parseT l).2.1 = l.length ∧ (parseT S).2.1 = S.length) ∧ ((parseT l).2.2 ≠ 0 → ∀ k, scanT us (parseT S).2.1 k = scanT ts (parseT l).2.1 k) := by
  obtain ⟨k1, k2, k3⟩ := sim_end (ts := ts) (us := us) (len := l.length) (len' := S.length) H.symm
  have q1 := readT_go (whole := progP) pg0 hlx rfl rfl
  have q2 := readT_go (whole := progP) pg0 hlx2 rfl rfl
  unfold parseT
  by_cases hn : (endP l.length (progP l.length ⟨ts, 0, 0⟩)).no = 0
  · rw [if_neg (by rw [hn]; decide)] at q1
    rw [if_neg (by rw [k1, hn]; decide)] at q2
    rw [q1, q2]
    exact ⟨rfl, k2, fun _ => ⟨rfl, rfl⟩, fun q => absurd rfl q⟩
  · rw [if_pos hn] at q1
    rw [if_pos (by rw [k1]; exact hn)] at q2
    rw [q1, q2]
    refine ⟨k1, rfl, fun q => absurd q hn, fun _ k => ?_⟩
    obtain ⟨j, e1, e2⟩ := k3 hn
    dsimp only
    rw [e1, e2]
    exact scan_eq h1 h2 (by have := congrArg List.length H; simpa using this) k
end
end Go.Proofs.YteaongdlbleehaaGreatDoor
