/- The contracts of the document's own span functions: Right, None, Has, Of, Meet, Leq. -/
import Derived.Test.YtimckaphmfidhaaGreatDoorGSp
import Derived.Test.YtimckaphmfidhaaGreatDoorRWalks
namespace Go.Proofs.YtimckaphmfidhaaGreatDoor.Sp
open Go.RowKit
attribute [local go_sem ↓] Go.wp_at_zero Go.wp_at_succ eq24 eq23 neq24 eqg24 eqg23

theorem boxed (w : World) (o : Obj) : Below w.heap.size w (w.alloc o) := (Below.refl _ _).alloc (Nat.le_refl _) _

set_option maxHeartbeats 800000 in
theorem rright_empty (w : World) : Calls Tryz.prog 129 #[.agg #[.int .i64 1, .int .i64 0]] w (RetBool true w) := by
  go_enter Tryz.func129, Tryz.ntmps129
  go_wp2_with fail
  go_ret
  exact ⟨rfl, boxed _ _⟩

set_option maxHeartbeats 1600000 in
theorem rright_more (l h : Int) (w : World) (hn : (l == 1) = false ∨ ((l == 1) = true ∧ (h == 0) = false)) (b : Bool)
    (hb : (inB l = false ∧ b = false) ∨ (inB l = true ∧ inB h = false ∧ b = false) ∨ (inB l = true ∧ inB h = true ∧ l ≤ h ∧ b = true) ∨ (inB l = true ∧ inB h = true ∧ decide (l ≤ h) = false ∧ b = false)) :
    Calls Tryz.prog 129 #[.agg #[.int .i64 l, .int .i64 h]] w (RetBool b w) := by
  rcases hn with n1 | ⟨n1, n2⟩ <;> rcases hb with ⟨h1, rfl⟩ | ⟨h1, h2, rfl⟩ | ⟨h1, h2, h3, rfl⟩ | ⟨h1, h2, h3, rfl⟩
  all_goals
    go_enter Tryz.func129, Tryz.ntmps129
    go_wp2_with (first | (go_at_call 96; ((with_reducible refine (rin_any _ _).mono ?_); rintro e w' ⟨rfl, rfl⟩)))
    go_ret
    exact ⟨rfl, boxed _ _⟩

theorem rright_any (l h : Int) (w : World) : Calls Tryz.prog 129 #[.agg #[.int .i64 l, .int .i64 h]] w (RetBool (rightS l h) w) := by
  by_cases e : l = 1 ∧ h = 0
  · obtain ⟨rfl, rfl⟩ := e
    rw [(rightS_iff 1 0).2 (Or.inl ⟨rfl, rfl⟩)]
    exact rright_empty w
  · refine rright_more l h w ?_ _ ?_
    · by_cases h1 : l = 1
      · exact Or.inr ⟨by simpa using h1, by simp; omega⟩
      · exact Or.inl (by simpa using h1)
    · have hr := rightS_iff l h
      cases h1 : inB l
      · left
        refine ⟨rfl, ?_⟩
        have := of_not_inB h1
        cases c : rightS l h
        · rfl
        · rw [hr] at c; omega
      · have b1 := of_inB h1
        cases h2 : inB h
        · right; left
          refine ⟨rfl, rfl, ?_⟩
          have := of_not_inB h2
          cases c : rightS l h
          · rfl
          · rw [hr] at c; omega
        · have b2 := of_inB h2
          by_cases h3 : l ≤ h
          · right; right; left
            exact ⟨rfl, rfl, h3, hr.2 (Or.inr ⟨by omega, by omega, h3⟩)⟩
          · right; right; right
            refine ⟨rfl, rfl, decide_eq_false h3, ?_⟩
            cases c : rightS l h
            · rfl
            · rw [hr] at c; omega

set_option maxHeartbeats 800000 in
theorem rnone_any (l h : Int) (w : World) : Calls Tryz.prog 95 #[.agg #[.int .i64 l, .int .i64 h]] w (RetBool (noneS l h) w) := by
  cases hr : rightS l h
  · have e : noneS l h = true := by rw [noneS_def, hr]; rfl
    rw [e]; clear e
    go_enter Tryz.func95, Tryz.ntmps95
    go_wp2_with (first | (go_at_call 129; ((with_reducible refine (rright_any _ _ _).mono ?_); rintro e w1 ⟨rfl, hb1⟩); obtain ⟨hc1, hf1⟩ := bcell hb1))
    go_ret
    exact ⟨rfl, below_trans (boxed _ _) hb1⟩
  · have e : noneS l h = decide (h < l) := by rw [noneS_def, hr]; rfl
    rw [e]; clear e
    go_enter Tryz.func95, Tryz.ntmps95
    go_wp2_with (first | (go_at_call 129; ((with_reducible refine (rright_any _ _ _).mono ?_); rintro e w1 ⟨rfl, hb1⟩); obtain ⟨hc1, hf1⟩ := bcell hb1))
    go_ret
    exact ⟨rfl, below_trans (boxed _ _) hb1⟩

set_option maxHeartbeats 800000 in
theorem rhas_any (l h n : Int) (w : World) : Calls Tryz.prog 127 #[.agg #[.int .i64 l, .int .i64 h], .int .i64 n] w (RetBool (hasS l h n) w) := by
  rw [hasS_ref]
  cases hr : noneS l h
  · by_cases h1 : l ≤ n
    · have e : (!false && (decide (l ≤ n) && decide (n ≤ h))) = decide (n ≤ h) := by simp [h1]
      rw [e]; clear e
      go_enter Tryz.func127, Tryz.ntmps127
      go_wp2_with (first | (go_at_call 95; ((with_reducible refine (rnone_any _ _ _).mono ?_); rintro e w1 ⟨rfl, hb1⟩); obtain ⟨hc1, hf1⟩ := bcell hb1))
      go_ret
      exact ⟨rfl, below_trans (boxed _ _) hb1⟩
    · have h2 : decide (l ≤ n) = false := decide_eq_false h1
      have e : (!false && (decide (l ≤ n) && decide (n ≤ h))) = false := by simp [h1]
      rw [e]; clear e h1
      go_enter Tryz.func127, Tryz.ntmps127
      go_wp2_with (first | (go_at_call 95; ((with_reducible refine (rnone_any _ _ _).mono ?_); rintro e w1 ⟨rfl, hb1⟩); obtain ⟨hc1, hf1⟩ := bcell hb1))
      go_ret
      exact ⟨rfl, below_trans (boxed _ _) hb1⟩
  · have e : (!true && (decide (l ≤ n) && decide (n ≤ h))) = false := rfl
    rw [e]; clear e
    go_enter Tryz.func127, Tryz.ntmps127
    go_wp2_with (first | (go_at_call 95; ((with_reducible refine (rnone_any _ _ _).mono ?_); rintro e w1 ⟨rfl, hb1⟩); obtain ⟨hc1, hf1⟩ := bcell hb1))
    go_ret
    exact ⟨rfl, below_trans (boxed _ _) hb1⟩

set_option maxHeartbeats 1600000 in
theorem rof_any (l h : Int) (w : World) : Calls Tryz.prog 98 #[.int .i64 l, .int .i64 h] w (RetSpan (ofL l h) (ofH l h) w) := by
  have hl : (l < -1152921504606846976 ∧ max l (-1152921504606846976) = -1152921504606846976) ∨ (-1152921504606846976 ≤ l ∧ max l (-1152921504606846976) = l) := by omega
  have hh : (1152921504606846976 < h ∧ min h 1152921504606846976 = 1152921504606846976) ∨ (h ≤ 1152921504606846976 ∧ min h 1152921504606846976 = h) := by omega
  rcases of_cases l h with ⟨c, e1, e2⟩ | ⟨c, e1, e2⟩ <;> rw [e1, e2] <;> clear e1 e2 <;> rcases hl with ⟨hl, el⟩ | ⟨hl, el⟩ <;> rcases hh with ⟨hh, eh⟩ | ⟨hh, eh⟩ <;> rw [el, eh] at c <;> (try rw [el, eh]) <;> clear el eh
  all_goals first
    | omega
    | (go_enter Tryz.func98, Tryz.ntmps98
       go_wp2_with (first | (go_at_call 122; ((with_reducible refine (rtop_any _).mono ?_); rintro e w' ⟨rfl, rfl⟩)))
       exact bodyPost_ret (v := .agg #[.int .i64 _, .int .i64 _]) (by simp [results, Tryz.results98, go_sem]; first | done | exact ⟨rfl, rfl⟩) rfl ⟨rfl, boxed _ _⟩)
end Go.Proofs.YtimckaphmfidhaaGreatDoor.Sp
