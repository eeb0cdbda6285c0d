/- Put together of: SpBase, SpSets, SpRefBase. -/
import Derived.Test.YtcbkffpmclainaaDoorProg
import Derived.Test.YtcbkffpmclainaaDoorSpans
import Derived.Test.YtcbkffpmclainaaDoorSame
import Derived.WalkKit
import Derived.WalkSpells
import Derived.Outline
import Derived.Lib.Hide
import Derived.Below
import Derived.Deep.RegionHeld3
import Derived.Deep.DeepCutAuto
import Derived.Deep.DrawnRows
import Derived.Deep.RegionWith
import Derived.Lib.MinMax
import Derived.Test.YtcbkffpmclainaaDoorRWalks
/- The contracts of the span layer's least functions: Empty, Full, Of, Right, taken, Has. -/
namespace Go.Proofs.YtcbkffpmclainaaDoor.Sp
open Go.RowKit
attribute [local go_sem ↓] Go.wp_at_zero Go.wp_at_succ eq24 eq23 neq24 eqg24 eqg23

/-- A span is handed back; what was there is as it was. -/
def RetSpan (l h : Int) (w : World) (e : Ending) (w' : World) : Prop := e = .returned (.agg #[.int .i64 l, .int .i64 h]) ∧ Below w.heap.size w w'
def RetBool (b : Bool) (w : World) (e : Ending) (w' : World) : Prop := e = .returned (.bool b) ∧ Below w.heap.size w w'

theorem below_trans {w w1 w2 : World} (h1 : Below w.heap.size w w1) (h2 : Below w1.heap.size w1 w2) : Below w.heap.size w w2 := h1.trans (h2.mono h1.size)
theorem bcell {W w1 : World} (hb : Below W.heap.size W w1) : (∀ b o, b < W.heap.size → w1.cell? ⟨b, o, none⟩ = W.cell? ⟨b, o, none⟩) ∧ (∀ b o, b < W.heap.size → w1.frozen? ⟨b, o, none⟩ = W.frozen? ⟨b, o, none⟩) :=
  ⟨fun b o h => hb.cell (p := ⟨b, o, none⟩) h, fun b o h => hb.frozen (p := ⟨b, o, none⟩) h⟩

set_option maxHeartbeats 400000 in
theorem empty_any (w : World) : Calls Tryd.prog 81 #[] w (RetSpan 1 0 w) := by
  go_enter Tryd.func81, Tryd.ntmps81
  go_wp2
  exact bodyPost_ret (v := .agg #[.int .i64 1, .int .i64 0]) (by simp [results, Tryd.results81, go_sem]) rfl ⟨rfl, (Below.refl _ _).alloc (Nat.le_refl _) _⟩

set_option maxHeartbeats 400000 in
theorem full_any (w : World) : Calls Tryd.prog 76 #[] w (RetSpan (-1152921504606846976) 1152921504606846976 w) := by
  go_enter Tryd.func76, Tryd.ntmps76
  go_wp2
  exact bodyPost_ret (v := .agg #[.int .i64 (-1152921504606846976), .int .i64 1152921504606846976]) (by simp [results, Tryd.results76, go_sem]) rfl ⟨rfl, (Below.refl _ _).alloc (Nat.le_refl _) _⟩

set_option maxHeartbeats 800000 in
theorem of_some (l h l' h' : Int) (w : World) (hl : (l < -1152921504606846976 ∧ l' = -1152921504606846976) ∨ (-1152921504606846976 ≤ l ∧ l' = l)) (hh : (1152921504606846976 < h ∧ h' = 1152921504606846976) ∨ (h ≤ 1152921504606846976 ∧ h' = h)) (hle : l' ≤ h') :
    Calls Tryd.prog 98 #[.int .i64 l, .int .i64 h] w (RetSpan l' h' w) := by
  rcases hl with ⟨hl, rfl⟩ | ⟨hl, rfl⟩ <;> rcases hh with ⟨hh, rfl⟩ | ⟨hh, rfl⟩
  all_goals
    go_enter Tryd.func98, Tryd.ntmps98
    go_wp2_with fail
    exact bodyPost_ret (v := .agg #[.int .i64 _, .int .i64 _]) (by simp [results, Tryd.results98, go_sem]) rfl ⟨rfl, (Below.refl _ _).alloc (Nat.le_refl _) _⟩

set_option maxHeartbeats 800000 in
theorem of_none (l h l' h' : Int) (w : World) (hl : (l < -1152921504606846976 ∧ l' = -1152921504606846976) ∨ (-1152921504606846976 ≤ l ∧ l' = l)) (hh : (1152921504606846976 < h ∧ h' = 1152921504606846976) ∨ (h ≤ 1152921504606846976 ∧ h' = h)) (hle : h' < l') :
    Calls Tryd.prog 98 #[.int .i64 l, .int .i64 h] w (RetSpan 1 0 w) := by
  rcases hl with ⟨hl, rfl⟩ | ⟨hl, rfl⟩ <;> rcases hh with ⟨hh, rfl⟩ | ⟨hh, rfl⟩
  · omega
  all_goals
    go_enter Tryd.func98, Tryd.ntmps98
    go_wp2_with (go_at_call 81; ((with_reducible refine (empty_any _).mono ?_); rintro e w1 ⟨rfl, hb1⟩); obtain ⟨hc, hf⟩ := bcell hb1)
    exact bodyPost_ret (v := .agg #[.int .i64 1, .int .i64 0]) (by simp [results, Tryd.results98, go_sem, hc]) rfl ⟨rfl, ((((Below.refl _ _).alloc (Nat.le_refl _) _).trans (hb1.mono (by simp))).setCell (by simp) _).setCell (by simp) _⟩

theorem of_any (l h : Int) (w : World) : Calls Tryd.prog 98 #[.int .i64 l, .int .i64 h] w (RetSpan (ofL l h) (ofH l h) w) := by
  have hl : (l < -1152921504606846976 ∧ max l (-1152921504606846976) = -1152921504606846976) ∨ (-1152921504606846976 ≤ l ∧ max l (-1152921504606846976) = l) := by omega
  have hh : (1152921504606846976 < h ∧ min h 1152921504606846976 = 1152921504606846976) ∨ (h ≤ 1152921504606846976 ∧ min h 1152921504606846976 = h) := by omega
  rcases of_cases l h with ⟨c, e1, e2⟩ | ⟨c, e1, e2⟩
  · rw [e1, e2]; exact of_some l h _ _ w hl hh c
  · rw [e1, e2]; exact of_none l h _ _ w hl hh c

set_option maxHeartbeats 800000 in
theorem right_any (l h : Int) (w : World) : Calls Tryd.prog 106 #[.agg #[.int .i64 l, .int .i64 h]] w (RetBool (rightS l h) w) := by
  go_enter Tryd.func106, Tryd.ntmps106
  go_wp2_with fail
  go_region_held3 (fun w' => w'.cell? ⟨w.heap.size, 0, none⟩ = some (.int .i64 l) ∧ w'.cell? ⟨w.heap.size, 1, none⟩ = some (.int .i64 h)) (first | go_keep | (obtain ⟨hc, hf⟩ := bcell (by assumption); simp [hc]; done))
    (first | (go_at_call 98; ((with_reducible refine (of_any _ _ _).mono ?_); rintro e w1 ⟨rfl, hb1⟩)))
  go_wp2_with fail
  go_ret
  exact ⟨rfl, below_trans (((Below.refl _ _).alloc (Nat.le_refl _) _).drew) (by assumption)⟩

set_option maxHeartbeats 800000 in
theorem taken_no (l h : Int) (w : World) (hr : rightS l h = false) : Calls Tryd.prog 97 #[.agg #[.int .i64 l, .int .i64 h]] w (RetSpan 1 0 w) := by
  go_enter Tryd.func97, Tryd.ntmps97
  go_wp2_with (first
    | (go_at_call 106; ((with_reducible refine (right_any _ _ _).mono ?_); rintro e w1 ⟨rfl, hb1⟩); obtain ⟨hc1, hf1⟩ := bcell hb1)
    | (go_at_call 81; ((with_reducible refine (empty_any _).mono ?_); rintro e w2 ⟨rfl, hb2⟩); have hb3 := below_trans hb1 hb2; obtain ⟨hc2, hf2⟩ := bcell hb3; clear hc1 hf1))
  refine bodyPost_ret (v := .agg #[.int .i64 1, .int .i64 0]) (by simp [results, Tryd.results97, go_sem, hc2]) rfl ⟨rfl, ?_⟩
  exact ((((((Below.refl _ _).alloc (Nat.le_refl _) _).alloc (by simp) _).trans (hb3.mono (by simp; omega))).setCell (by simp) _).setCell (by simp) _)

set_option maxHeartbeats 800000 in
theorem taken_yes (l h : Int) (w : World) (hr : rightS l h = true) : Calls Tryd.prog 97 #[.agg #[.int .i64 l, .int .i64 h]] w (RetSpan l h w) := by
  go_enter Tryd.func97, Tryd.ntmps97
  go_wp2_with (first
    | (go_at_call 106; ((with_reducible refine (right_any _ _ _).mono ?_); rintro e w1 ⟨rfl, hb1⟩); obtain ⟨hc1, hf1⟩ := bcell hb1))
  refine bodyPost_ret (v := .agg #[.int .i64 l, .int .i64 h]) (by simp [results, Tryd.results97, go_sem, hc1]) rfl ⟨rfl, ?_⟩
  exact ((((((Below.refl _ _).alloc (Nat.le_refl _) _).alloc (by simp) _).trans (hb1.mono (by simp; omega))).setCell (by simp) _).setCell (by simp) _)

theorem taken_any (l h : Int) (w : World) : Calls Tryd.prog 97 #[.agg #[.int .i64 l, .int .i64 h]] w (RetSpan (tkL l h) (tkH l h) w) := by
  rcases tk_cases l h with ⟨c, e1, e2⟩ | ⟨c, e1, e2⟩
  · rw [e1, e2]; exact taken_yes l h w c
  · rw [e1, e2]; exact taken_no l h w c

end Go.Proofs.YtcbkffpmclainaaDoor.Sp

/- The contracts of Meet, Leq. -/
namespace Go.Proofs.YtcbkffpmclainaaDoor.Sp
open Go.RowKit
attribute [local go_sem ↓] Go.wp_at_zero Go.wp_at_succ eq24 eq23 neq24 eqg24 eqg23

/-- A block that holds a span, which may be written. -/
def Box (w : World) (b : Nat) (l h : Int) : Prop :=
  b < w.heap.size ∧ w.cell? ⟨b, 0, none⟩ = some (.int .i64 l) ∧ w.cell? ⟨b, 1, none⟩ = some (.int .i64 h) ∧ w.frozen? ⟨b, 0, none⟩ = false ∧ w.frozen? ⟨b, 1, none⟩ = false
theorem Box.below {w w' : World} {b : Nat} {l h : Int} (x : Box w b l h) (hb : Below w.heap.size w w') : Box w' b l h := by
  obtain ⟨h1, h2, h3, h4, h5⟩ := x
  obtain ⟨hc, hf⟩ := bcell hb
  exact ⟨by have := hb.size; omega, by rw [hc _ _ h1]; exact h2, by rw [hc _ _ h1]; exact h3, by rw [hf _ _ h1]; exact h4, by rw [hf _ _ h1]; exact h5⟩
theorem three_sz {W w1 : World} (hb : Below W.heap.size W w1) {n : Nat} (h : n + 2 < W.heap.size) : n < w1.heap.size ∧ n + 1 < w1.heap.size ∧ n + 1 + 1 < w1.heap.size := by
  have := hb.size; omega

/-- What both boxes, and the third, hold; what was there is as it was. -/
def Boxes (w wx : World) (a b c d x y : Int) : Prop := Box wx w.heap.size a b ∧ Box wx (w.heap.size + 1) c d ∧ Box wx (w.heap.size + 1 + 1) x y ∧ Below w.heap.size w wx
theorem Boxes.below {w wx w' : World} {a b c d x y : Int} (h : Boxes w wx a b c d x y) (hb : Below wx.heap.size wx w') : Boxes w w' a b c d x y :=
  ⟨h.1.below hb, h.2.1.below hb, h.2.2.1.below hb, h.2.2.2.trans (hb.mono (by have := h.1.1; omega))⟩
theorem boxes_new (w : World) (a b c d x y : Int) : Boxes w (((w.alloc (.cells #[.int .i64 a, .int .i64 b] 53)).alloc (.cells #[.int .i64 c, .int .i64 d] 53)).alloc (.cells #[.int .i64 x, .int .i64 y] 53)).drew a b c d x y := by
  refine ⟨⟨?_, ?_, ?_, ?_, ?_⟩, ⟨?_, ?_, ?_, ?_, ?_⟩, ⟨?_, ?_, ?_, ?_, ?_⟩, ((((Below.refl _ _).alloc (Nat.le_refl _) _).alloc (by simp) _).alloc (by simp; omega) _).drew⟩
  all_goals go_simp
theorem boxes_put {w wx : World} {a b c d x y : Int} (h : Boxes w wx a b c d x y) (a' b' c' d' : Int) :
    Boxes w ((((wx.setCell ⟨w.heap.size, 0, none⟩ (.int .i64 a')).setCell ⟨w.heap.size, 1, none⟩ (.int .i64 b')).setCell ⟨w.heap.size + 1, 0, none⟩ (.int .i64 c')).setCell ⟨w.heap.size + 1, 1, none⟩ (.int .i64 d')) a' b' c' d' x y := by
  obtain ⟨⟨z0, p0, p1, f0, f1⟩, ⟨z1, q0, q1, g0, g1⟩, ⟨z2, r0, r1, e0, e1⟩, hb⟩ := h
  refine ⟨⟨?_, ?_, ?_, ?_, ?_⟩, ⟨?_, ?_, ?_, ?_, ?_⟩, ⟨?_, ?_, ?_, ?_, ?_⟩, (((hb.setCell (by simp) _).setCell (by simp) _).setCell (by simp) _).setCell (by simp) _⟩
  all_goals go_simp
/-- Behind 'a, b = taken(a), taken(b)'. -/
theorem boxes_taken {w w1 w2 : World} {a b c d x y : Int} (hb1 : Below ((((w.alloc (.cells #[.int .i64 a, .int .i64 b] 53)).alloc (.cells #[.int .i64 c, .int .i64 d] 53)).alloc (.cells #[.int .i64 x, .int .i64 y] 53)).drew).heap.size ((((w.alloc (.cells #[.int .i64 a, .int .i64 b] 53)).alloc (.cells #[.int .i64 c, .int .i64 d] 53)).alloc (.cells #[.int .i64 x, .int .i64 y] 53)).drew) w1)
    (hb2 : Below w1.heap.size w1 w2) (a' b' c' d' : Int) :
    Boxes w ((((w2.setCell ⟨w.heap.size, 0, none⟩ (.int .i64 a')).setCell ⟨w.heap.size, 1, none⟩ (.int .i64 b')).setCell ⟨w.heap.size + 1, 0, none⟩ (.int .i64 c')).setCell ⟨w.heap.size + 1, 1, none⟩ (.int .i64 d')) a' b' c' d' x y :=
  boxes_put (((boxes_new w a b c d x y).below hb1).below hb2) a' b' c' d'

set_option maxHeartbeats 1600000 in
theorem meet_any (a b c d : Int) (w : World) : Calls Tryd.prog 75 #[.agg #[.int .i64 a, .int .i64 b], .agg #[.int .i64 c, .int .i64 d]] w (RetSpan (meetL a b c d) (meetH a b c d) w) := by
  go_enter Tryd.func75, Tryd.ntmps75
  go_upto_region 1 with fail
  go_cut [] (fun wx => Boxes w wx (tkL a b) (tkH a b) (tkL c d) (tkH c d) 0 0)
  case first =>
    go_region_with (first | (go_at_call 97; ((with_reducible refine (taken_any _ _ _).mono ?_); rintro e w1 ⟨rfl, hb1⟩); obtain ⟨hc, hf⟩ := bcell hb1; obtain ⟨z0, z1, z2⟩ := three_sz (n := w.heap.size) hb1 (by first | omega | (simp; omega) | (simp; done))))
    all_goals go_wp2_with fail
    all_goals go_meet
    all_goals exact boxes_taken (by assumption) (by assumption) _ _ _ _
  case rest =>
    obtain ⟨⟨z0, p0, p1, f0, f1⟩, ⟨z1, q0, q1, g0, g1⟩, ⟨z2, r0, r1, e0, e1⟩, hB⟩ := hcut
    go_wp2_with (first | (go_at_call 98; ((with_reducible refine (of_any _ _ _).mono ?_); rintro e w1 ⟨rfl, hb1⟩); obtain ⟨hc, hf⟩ := bcell hb1))
    refine bodyPost_ret (v := .agg #[.int .i64 (ofL (max (tkL a b) (tkL c d)) (min (tkH a b) (tkH c d))), .int .i64 (ofH (max (tkL a b) (tkL c d)) (min (tkH a b) (tkH c d)))]) (by simp [results, Tryd.results75, go_sem, hc, z2, r0, r1]) rfl ⟨rfl, ?_⟩
    exact (((hB.trans (hb1.mono (by omega))).setCell (by simp; omega) _).setCell (by simp; omega) _)

/-- The two boxes' cells, said in one row. -/
theorem keep_two {W w1 : World} (hb : Below W.heap.size W w1) {n : Nat} {x y z t : Option Value} (h : n + 1 < W.heap.size ∧ W.cell? ⟨n, 0, none⟩ = x ∧ W.cell? ⟨n, 1, none⟩ = y ∧ W.cell? ⟨n + 1, 0, none⟩ = z ∧ W.cell? ⟨n + 1, 1, none⟩ = t) :
    n + 1 < w1.heap.size ∧ w1.cell? ⟨n, 0, none⟩ = x ∧ w1.cell? ⟨n, 1, none⟩ = y ∧ w1.cell? ⟨n + 1, 0, none⟩ = z ∧ w1.cell? ⟨n + 1, 1, none⟩ = t := by
  obtain ⟨h0, h1, h2, h3, h4⟩ := h
  obtain ⟨hc, -⟩ := bcell hb
  exact ⟨by have := hb.size; omega, by rw [hc _ _ (by omega)]; exact h1, by rw [hc _ _ (by omega)]; exact h2, by rw [hc _ _ h0]; exact h3, by rw [hc _ _ h0]; exact h4⟩

set_option maxHeartbeats 1600000 in
theorem leq_any (a b c d : Int) (w : World) : Calls Tryd.prog 107 #[.agg #[.int .i64 a, .int .i64 b], .agg #[.int .i64 c, .int .i64 d]] w (RetBool (leqS a b c d) w) := by
  go_enter Tryd.func107, Tryd.ntmps107
  go_wp2_with fail
  go_region_held3 (fun w' => w.heap.size + 1 < w'.heap.size ∧ w'.cell? ⟨w.heap.size, 0, none⟩ = some (.int .i64 a) ∧ w'.cell? ⟨w.heap.size, 1, none⟩ = some (.int .i64 b) ∧ w'.cell? ⟨w.heap.size + 1, 0, none⟩ = some (.int .i64 c) ∧ w'.cell? ⟨w.heap.size + 1, 1, none⟩ = some (.int .i64 d)) (first | (exact keep_two hb1 (by assumption)) | go_keep)
    (first | (go_at_call 75; ((with_reducible refine (meet_any _ _ _ _ _).mono ?_); rintro e w1 ⟨rfl, hb1⟩)) | (go_at_call 97; ((with_reducible refine (taken_any _ _ _).mono ?_); rintro e w1 ⟨rfl, hb1⟩)))
  all_goals go_wp2_with fail
  all_goals go_ret
  all_goals exact ⟨rfl, below_trans ((((Below.refl _ _).alloc (Nat.le_refl _) _).alloc (by simp) _).drew) (below_trans (by assumption) (by assumption))⟩
end Go.Proofs.YtcbkffpmclainaaDoor.Sp

/- The contracts of the document's own span functions: Right, None, Has, Of, Meet, Leq. -/
namespace Go.Proofs.YtcbkffpmclainaaDoor.Sp
open Go.RowKit
attribute [local go_sem ↓] Go.wp_at_zero Go.wp_at_succ eq24 eq23 neq24 eqg24 eqg23

theorem boxed (w : World) (o : Obj) : Below w.heap.size w (w.alloc o) := (Below.refl _ _).alloc (Nat.le_refl _) _

set_option maxHeartbeats 800000 in
theorem rright_empty (w : World) : Calls Tryd.prog 99 #[.agg #[.int .i64 1, .int .i64 0]] w (RetBool true w) := by
  go_enter Tryd.func99, Tryd.ntmps99
  go_wp2_with fail
  go_ret
  exact ⟨rfl, boxed _ _⟩

set_option maxHeartbeats 1600000 in
theorem rright_more (l h : Int) (w : World) (hn : (l == 1) = false ∨ ((l == 1) = true ∧ (h == 0) = false)) (b : Bool)
    (hb : (inB l = false ∧ b = false) ∨ (inB l = true ∧ inB h = false ∧ b = false) ∨ (inB l = true ∧ inB h = true ∧ l ≤ h ∧ b = true) ∨ (inB l = true ∧ inB h = true ∧ decide (l ≤ h) = false ∧ b = false)) :
    Calls Tryd.prog 99 #[.agg #[.int .i64 l, .int .i64 h]] w (RetBool b w) := by
  rcases hn with n1 | ⟨n1, n2⟩ <;> rcases hb with ⟨h1, rfl⟩ | ⟨h1, h2, rfl⟩ | ⟨h1, h2, h3, rfl⟩ | ⟨h1, h2, h3, rfl⟩
  all_goals
    go_enter Tryd.func99, Tryd.ntmps99
    go_wp2_with (first | (go_at_call 69; ((with_reducible refine (rin_any _ _).mono ?_); rintro e w' ⟨rfl, rfl⟩)))
    go_ret
    exact ⟨rfl, boxed _ _⟩

theorem rright_any (l h : Int) (w : World) : Calls Tryd.prog 99 #[.agg #[.int .i64 l, .int .i64 h]] w (RetBool (rightS l h) w) := by
  by_cases e : l = 1 ∧ h = 0
  · obtain ⟨rfl, rfl⟩ := e
    rw [(rightS_iff 1 0).2 (Or.inl ⟨rfl, rfl⟩)]
    exact rright_empty w
  · refine rright_more l h w ?_ _ ?_
    · by_cases h1 : l = 1
      · exact Or.inr ⟨by simpa using h1, by simp; omega⟩
      · exact Or.inl (by simpa using h1)
    · have hr := rightS_iff l h
      cases h1 : inB l
      · left
        refine ⟨rfl, ?_⟩
        have := of_not_inB h1
        cases c : rightS l h
        · rfl
        · rw [hr] at c; omega
      · have b1 := of_inB h1
        cases h2 : inB h
        · right; left
          refine ⟨rfl, rfl, ?_⟩
          have := of_not_inB h2
          cases c : rightS l h
          · rfl
          · rw [hr] at c; omega
        · have b2 := of_inB h2
          by_cases h3 : l ≤ h
          · right; right; left
            exact ⟨rfl, rfl, h3, hr.2 (Or.inr ⟨by omega, by omega, h3⟩)⟩
          · right; right; right
            refine ⟨rfl, rfl, decide_eq_false h3, ?_⟩
            cases c : rightS l h
            · rfl
            · rw [hr] at c; omega

set_option maxHeartbeats 800000 in
theorem rnone_any (l h : Int) (w : World) : Calls Tryd.prog 77 #[.agg #[.int .i64 l, .int .i64 h]] w (RetBool (noneS l h) w) := by
  cases hr : rightS l h
  · have e : noneS l h = true := by rw [noneS_def, hr]; rfl
    rw [e]; clear e
    go_enter Tryd.func77, Tryd.ntmps77
    go_wp2_with (first | (go_at_call 99; ((with_reducible refine (rright_any _ _ _).mono ?_); rintro e w1 ⟨rfl, hb1⟩); obtain ⟨hc1, hf1⟩ := bcell hb1))
    go_ret
    exact ⟨rfl, below_trans (boxed _ _) hb1⟩
  · have e : noneS l h = decide (h < l) := by rw [noneS_def, hr]; rfl
    rw [e]; clear e
    go_enter Tryd.func77, Tryd.ntmps77
    go_wp2_with (first | (go_at_call 99; ((with_reducible refine (rright_any _ _ _).mono ?_); rintro e w1 ⟨rfl, hb1⟩); obtain ⟨hc1, hf1⟩ := bcell hb1))
    go_ret
    exact ⟨rfl, below_trans (boxed _ _) hb1⟩

set_option maxHeartbeats 800000 in
theorem rhas_any (l h n : Int) (w : World) : Calls Tryd.prog 39 #[.agg #[.int .i64 l, .int .i64 h], .int .i64 n] w (RetBool (hasS l h n) w) := by
  rw [hasS_ref]
  cases hr : noneS l h
  · by_cases h1 : l ≤ n
    · have e : (!false && (decide (l ≤ n) && decide (n ≤ h))) = decide (n ≤ h) := by simp [h1]
      rw [e]; clear e
      go_enter Tryd.func39, Tryd.ntmps39
      go_wp2_with (first | (go_at_call 77; ((with_reducible refine (rnone_any _ _ _).mono ?_); rintro e w1 ⟨rfl, hb1⟩); obtain ⟨hc1, hf1⟩ := bcell hb1))
      go_ret
      exact ⟨rfl, below_trans (boxed _ _) hb1⟩
    · have h2 : decide (l ≤ n) = false := decide_eq_false h1
      have e : (!false && (decide (l ≤ n) && decide (n ≤ h))) = false := by simp [h1]
      rw [e]; clear e h1
      go_enter Tryd.func39, Tryd.ntmps39
      go_wp2_with (first | (go_at_call 77; ((with_reducible refine (rnone_any _ _ _).mono ?_); rintro e w1 ⟨rfl, hb1⟩); obtain ⟨hc1, hf1⟩ := bcell hb1))
      go_ret
      exact ⟨rfl, below_trans (boxed _ _) hb1⟩
  · have e : (!true && (decide (l ≤ n) && decide (n ≤ h))) = false := rfl
    rw [e]; clear e
    go_enter Tryd.func39, Tryd.ntmps39
    go_wp2_with (first | (go_at_call 77; ((with_reducible refine (rnone_any _ _ _).mono ?_); rintro e w1 ⟨rfl, hb1⟩); obtain ⟨hc1, hf1⟩ := bcell hb1))
    go_ret
    exact ⟨rfl, below_trans (boxed _ _) hb1⟩

end Go.Proofs.YtcbkffpmclainaaDoor.Sp
