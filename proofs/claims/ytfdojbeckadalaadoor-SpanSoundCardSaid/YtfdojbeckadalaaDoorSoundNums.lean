/- What comes of a number of each lies between what comes of the ends. Nothing of the program is walked here. -/
import Derived.Test.YtfdojbeckadalaaDoorCalcSome
namespace Go.Proofs.YtfdojbeckadalaaDoor

theorem mul_low {a b x : Int} (h1 : a ≤ x) (h2 : x ≤ b) (y : Int) : a * y ≤ x * y ∨ b * y ≤ x * y := by
  rcases Int.le_total 0 y with h | h
  · exact Or.inl (Int.mul_le_mul_of_nonneg_right h1 h)
  · exact Or.inr (Int.mul_le_mul_of_nonpos_right h2 h)
theorem mul_high {a b x : Int} (h1 : a ≤ x) (h2 : x ≤ b) (y : Int) : x * y ≤ a * y ∨ x * y ≤ b * y := by
  rcases Int.le_total 0 y with h | h
  · exact Or.inr (Int.mul_le_mul_of_nonneg_right h2 h)
  · exact Or.inl (Int.mul_le_mul_of_nonpos_right h1 h)
theorem pos_anti {e y d : Int} (he : 0 ≤ e) (hy : 0 < y) (hd : y ≤ d) : e.tdiv d ≤ e.tdiv y := by
  rw [Int.tdiv_eq_ediv_of_nonneg he, Int.tdiv_eq_ediv_of_nonneg he]
  refine (Int.le_ediv_iff_mul_le hy).2 ?_
  have h0 : 0 ≤ e / d := Int.ediv_nonneg he (by omega)
  have h1 := Int.mul_le_mul_of_nonneg_left hd h0
  have h2 := Int.ediv_mul_le e (show d ≠ 0 by omega)
  omega
theorem neg_mono {e y d : Int} (he : e ≤ 0) (hy : 0 < y) (hd : y ≤ d) : e.tdiv y ≤ e.tdiv d := by
  have h := pos_anti (e := -e) (by omega) hy hd
  rw [Int.neg_tdiv, Int.neg_tdiv] at h
  omega
/-- Over divisors of one sign the quotient of a number only rises, or only falls. -/
theorem div_between (e : Int) {c d y : Int} (h1 : c ≤ y) (h2 : y ≤ d) (hs : 0 < c ∨ d < 0) : (e.tdiv c ≤ e.tdiv y ∧ e.tdiv y ≤ e.tdiv d) ∨ (e.tdiv d ≤ e.tdiv y ∧ e.tdiv y ≤ e.tdiv c) := by
  rcases hs with hs | hs
  · rcases Int.le_total 0 e with he | he
    · exact Or.inr ⟨pos_anti he (by omega) h2, pos_anti he hs h1⟩
    · exact Or.inl ⟨neg_mono he hs h1, neg_mono he (by omega) h2⟩
  · have k : ∀ z : Int, e.tdiv z = -(e.tdiv (-z)) := fun z => by rw [Int.tdiv_neg]; omega
    rw [k c, k d, k y]
    rcases Int.le_total 0 e with he | he
    · have a1 := pos_anti (e := e) (y := -y) (d := -c) he (by omega) (by omega)
      have a2 := pos_anti (e := e) (y := -d) (d := -y) he (by omega) (by omega)
      exact Or.inr ⟨by omega, by omega⟩
    · have a1 := neg_mono (e := e) (y := -y) (d := -c) he (by omega) (by omega)
      have a2 := neg_mono (e := e) (y := -d) (d := -y) he (by omega) (by omega)
      exact Or.inl ⟨by omega, by omega⟩
/-- So does a quotient by one number. -/
theorem num_between {a b x : Int} (h1 : a ≤ x) (h2 : x ≤ b) {y : Int} (hy : y ≠ 0) : (a.tdiv y ≤ x.tdiv y ∧ x.tdiv y ≤ b.tdiv y) ∨ (b.tdiv y ≤ x.tdiv y ∧ x.tdiv y ≤ a.tdiv y) := by
  rcases Int.lt_or_gt_of_ne hy with h | h
  · have k : ∀ z : Int, z.tdiv y = -(z.tdiv (-y)) := fun z => by rw [Int.tdiv_neg]; omega
    rw [k a, k b, k x]
    have a1 := Int.tdiv_le_tdiv (show 0 < -y by omega) h1
    have a2 := Int.tdiv_le_tdiv (show 0 < -y by omega) h2
    exact Or.inr ⟨by omega, by omega⟩
  · exact Or.inl ⟨Int.tdiv_le_tdiv h h1, Int.tdiv_le_tdiv h h2⟩

/-- Some corner is not above it, and some not below. -/
theorem corner_low {op a b c d x y : Int} (h0 : 0 ≤ op) (h3 : op ≤ 3) (ha : a ≤ x) (hb : x ≤ b) (hc : c ≤ y) (hd : y ≤ d) (hs : op = 3 → (0 < c ∨ d < 0)) :
    ∃ e g, (e = a ∨ e = b) ∧ (g = c ∨ g = d) ∧ opR op e g ≤ opR op x y := by
  rcases (by omega : op = 0 ∨ op = 1 ∨ op = 2 ∨ op = 3) with rfl | rfl | rfl | rfl
  · exact ⟨a, c, Or.inl rfl, Or.inl rfl, by show a + c ≤ x + y; omega⟩
  · exact ⟨a, d, Or.inl rfl, Or.inr rfl, by show a - d ≤ x - y; omega⟩
  · obtain ⟨e, he, h1⟩ : ∃ e, (e = a ∨ e = b) ∧ e * y ≤ x * y := by
      rcases mul_low ha hb y with h | h
      · exact ⟨a, Or.inl rfl, h⟩
      · exact ⟨b, Or.inr rfl, h⟩
    rcases mul_low hc hd e with h | h
    · exact ⟨e, c, he, Or.inl rfl, by show e * c ≤ x * y; rw [Int.mul_comm c, Int.mul_comm y] at h; omega⟩
    · exact ⟨e, d, he, Or.inr rfl, by show e * d ≤ x * y; rw [Int.mul_comm d, Int.mul_comm y] at h; omega⟩
  · have hs := hs rfl
    obtain ⟨e, he, h1⟩ : ∃ e, (e = a ∨ e = b) ∧ e.tdiv y ≤ x.tdiv y := by
      rcases num_between ha hb (show y ≠ 0 by omega) with h | h
      · exact ⟨a, Or.inl rfl, h.1⟩
      · exact ⟨b, Or.inr rfl, h.1⟩
    rcases div_between e hc hd hs with h | h
    · exact ⟨e, c, he, Or.inl rfl, by show e.tdiv c ≤ x.tdiv y; omega⟩
    · exact ⟨e, d, he, Or.inr rfl, by show e.tdiv d ≤ x.tdiv y; omega⟩
theorem corner_high {op a b c d x y : Int} (h0 : 0 ≤ op) (h3 : op ≤ 3) (ha : a ≤ x) (hb : x ≤ b) (hc : c ≤ y) (hd : y ≤ d) (hs : op = 3 → (0 < c ∨ d < 0)) :
    ∃ e g, (e = a ∨ e = b) ∧ (g = c ∨ g = d) ∧ opR op x y ≤ opR op e g := by
  rcases (by omega : op = 0 ∨ op = 1 ∨ op = 2 ∨ op = 3) with rfl | rfl | rfl | rfl
  · exact ⟨b, d, Or.inr rfl, Or.inr rfl, by show x + y ≤ b + d; omega⟩
  · exact ⟨b, c, Or.inr rfl, Or.inl rfl, by show x - y ≤ b - c; omega⟩
  · obtain ⟨e, he, h1⟩ : ∃ e, (e = a ∨ e = b) ∧ x * y ≤ e * y := by
      rcases mul_high ha hb y with h | h
      · exact ⟨a, Or.inl rfl, h⟩
      · exact ⟨b, Or.inr rfl, h⟩
    rcases mul_high hc hd e with h | h
    · exact ⟨e, c, he, Or.inl rfl, by show x * y ≤ e * c; rw [Int.mul_comm c, Int.mul_comm y] at h; omega⟩
    · exact ⟨e, d, he, Or.inr rfl, by show x * y ≤ e * d; rw [Int.mul_comm d, Int.mul_comm y] at h; omega⟩
  · have hs := hs rfl
    obtain ⟨e, he, h1⟩ : ∃ e, (e = a ∨ e = b) ∧ x.tdiv y ≤ e.tdiv y := by
      rcases num_between ha hb (show y ≠ 0 by omega) with h | h
      · exact ⟨b, Or.inr rfl, h.2⟩
      · exact ⟨a, Or.inl rfl, h.2⟩
    rcases div_between e hc hd hs with h | h
    · exact ⟨e, d, he, Or.inr rfl, by show x.tdiv y ≤ e.tdiv d; omega⟩
    · exact ⟨e, c, he, Or.inl rfl, by show x.tdiv y ≤ e.tdiv c; omega⟩

/-- The corners of the part in which y is are among the ends. -/
theorem corner_mem {op a b c d e g : Int} (hs : sameB c d 1 0 = false) (he : e = a ∨ e = b) (hg : g = c ∨ g = d) : cut (opR op e g) ∈ cornerL op a b c d := by
  unfold cornerL
  rw [if_neg (by rw [hs]; simp)]
  rcases he with rfl | rfl <;> rcases hg with rfl | rfl <;> simp

theorem ends_around {op a b c d x y : Int} (h0 : 0 ≤ op) (h3 : op ≤ 3) (ha : noneS a b = false) (hc : noneS c d = false) (hx : hasS a b x = true) (hy : hasS c d y = true) (hz : ¬ (op = 3 ∧ y = 0)) :
    (∃ u ∈ endsL op a b c d, u ≤ cut (opR op x y)) ∧ ∃ v ∈ endsL op a b c d, cut (opR op x y) ≤ v := by
  have ea := noneS_no ha
  have ec := noneS_no hc
  have bx := hasS_bd hx
  have hyb := hasS_bd hy
  have main : ∀ p q : Int, p ≤ y → y ≤ q → (op = 3 → (0 < p ∨ q < 0)) → sameB p q 1 0 = false → (∀ u, u ∈ cornerL op a b p q → u ∈ endsL op a b c d) →
      (∃ u ∈ endsL op a b c d, u ≤ cut (opR op x y)) ∧ ∃ v ∈ endsL op a b c d, cut (opR op x y) ≤ v := fun p q hp hq hsg hn hin => by
    obtain ⟨e, g, he, hg, hle⟩ := corner_low h0 h3 bx.2.2.1 bx.2.2.2 hp hq hsg
    obtain ⟨e', g', he', hg', hge⟩ := corner_high h0 h3 bx.2.2.1 bx.2.2.2 hp hq hsg
    exact ⟨⟨_, hin _ (corner_mem hn he hg), cut_mono hle⟩, _, hin _ (corner_mem hn he' hg'), cut_mono hge⟩
  by_cases h : op = 3
  · subst h
    have e : endsL 3 a b c d = ([] ++ cornerL 3 a b (meetL c d (-1152921504606846976) (-1)) (meetH c d (-1152921504606846976) (-1))) ++ cornerL 3 a b (meetL c d 1 1152921504606846976) (meetH c d 1 1152921504606846976) := rfl
    rcases Int.lt_or_gt_of_ne (show y ≠ 0 from fun k => hz ⟨rfl, k⟩) with k | k
    · rcases meet_neg hc with m | m
      · omega
      · refine main c (min d (-1)) (by omega) (by omega) (fun _ => Or.inr (by omega)) ?_ (fun u hu => ?_)
        · cases s : sameB c (min d (-1)) 1 0
          · rfl
          · have := (sameB_iff _ _ _ _).1 s; omega
        · rw [e, m.2.1, m.2.2]
          simp only [List.nil_append, List.mem_append]
          exact Or.inl hu
    · rcases meet_pos hc with m | m
      · omega
      · refine main (max c 1) d (by omega) (by omega) (fun _ => Or.inl (by omega)) ?_ (fun u hu => ?_)
        · cases s : sameB (max c 1) d 1 0
          · rfl
          · have := (sameB_iff _ _ _ _).1 s; omega
        · rw [e, m.2.1, m.2.2]
          simp only [List.nil_append, List.mem_append]
          exact Or.inr hu
  · have e : endsL op a b c d = [] ++ cornerL op a b c d := by
      unfold endsL partN
      rw [if_neg h]
      show [] ++ cornersOf op a b c d 0 = _
      unfold cornersOf partC partD
      rw [if_neg h, if_neg h]
    refine main c d hyb.2.2.1 hyb.2.2.2 (fun k => absurd k h) ?_ (fun u hu => by rw [e]; simpa using hu)
    cases s : sameB c d 1 0
    · rfl
    · have := (sameB_iff _ _ _ _).1 s; omega

theorem ends_at {op a b c d u : Int} (h : u ∈ endsL op a b c d) : ∃ j, j < (endsL op a b c d).length ∧ endsF op a b c d j = u := by
  obtain ⟨j, hj, e⟩ := List.getElem_of_mem h
  refine ⟨j, hj, ?_⟩
  unfold endsF
  simp [List.getD, List.getElem?_eq_getElem hj, e]

theorem wrB_of {f : Nat → Int} {W0 : Bool} {m j : Nat} (hj : j < m) (h : inB (f j) = false) : wrB f W0 m = true := by
  induction m with
  | zero => omega
  | succ m ih =>
    show (wrB f W0 m || !inB (f m)) = true
    by_cases e : j = m
    · subst e; rw [h]; simp
    · rw [ih (by omega)]; rfl
theorem wrB_start {f : Nat → Int} (m : Nat) : wrB f true m = true := by
  induction m with
  | zero => rfl
  | succ m ih => show (wrB f true m || !inB (f m)) = true; rw [ih]; rfl

/-- What is reckoned of a number of each is in what is reckoned of both. -/
theorem sound_in {op a b c d x y : Int} (h0 : 0 ≤ op) (h3 : op ≤ 3) (ha : noneS a b = false) (hc : noneS c d = false) (hx : hasS a b x = true) (hy : hasS c d y = true) (hz : ¬ (op = 3 ∧ y = 0)) (hr : inB (opR op x y) = true) :
    hasS (hullL (endsF op a b c d) (endsL op a b c d).length) (hullH (endsF op a b c d) (endsL op a b c d).length) (opR op x y) = true := by
  obtain ⟨⟨u, hu, lu⟩, v, hv, lv⟩ := ends_around h0 h3 ha hc hx hy hz
  rw [cut_in hr] at lu lv
  obtain ⟨i, hi, rfl⟩ := ends_at hu
  obtain ⟨j, hj, rfl⟩ := ends_at hv
  obtain ⟨n, hn⟩ : ∃ n, (endsL op a b c d).length = n + 1 := ⟨(endsL op a b c d).length - 1, by omega⟩
  rw [hn] at hi hj ⊢
  have b1 := of_inB hr
  have m1 := mnF_le (endsF op a b c d) n i (by omega)
  have m2 := le_mxF (endsF op a b c d) n j (by omega)
  have rr := rightS_of (mnF (endsF op a b c d) n) (mxF (endsF op a b c d) n)
  show hasS (ofL (mnF (endsF op a b c d) n) (mxF (endsF op a b c d) n)) (ofH (mnF (endsF op a b c d) n) (mxF (endsF op a b c d) n)) (opR op x y) = true
  unfold hasS
  rw [rr, Bool.true_and, Bool.and_eq_true, decide_eq_true_iff, decide_eq_true_iff]
  rcases of_cases (mnF (endsF op a b c d) n) (mxF (endsF op a b c d) n) with k | k <;> omega

/-- Where it can't be, that is told. -/
theorem sound_over {op a b c d x y : Int} (h0 : 0 ≤ op) (h3 : op ≤ 3) (ha : noneS a b = false) (hc : noneS c d = false) (hx : hasS a b x = true) (hy : hasS c d y = true) (hz : ¬ (op = 3 ∧ y = 0)) (hr : inB (opR op x y) = false) :
    wrB (endsF op a b c d) (wrong0 op c d) (endsL op a b c d).length = true := by
  obtain ⟨⟨u, hu, lu⟩, v, hv, lv⟩ := ends_around h0 h3 ha hc hx hy hz
  obtain ⟨i, hi, rfl⟩ := ends_at hu
  obtain ⟨j, hj, rfl⟩ := ends_at hv
  have := of_not_inB hr
  rcases cut_cases (opR op x y) with k | k | k
  · exact wrB_of hj (inB_high (by omega))
  · exact wrB_of hi (inB_low (by omega))
  · omega
theorem sound_zero {a b c d : Int} (hy : hasS c d 0 = true) : wrB (endsF 3 a b c d) (wrong0 3 c d) (endsL 3 a b c d).length = true := by
  have e : wrong0 3 c d = true := by unfold wrong0; rw [hy]; rfl
  rw [e]
  exact wrB_start _
end Go.Proofs.YtfdojbeckadalaaDoor
