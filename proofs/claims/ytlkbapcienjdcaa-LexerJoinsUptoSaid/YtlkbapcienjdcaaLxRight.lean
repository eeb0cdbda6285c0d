/- The lexer layer: Right. -/
import Derived.Test.YtlkbapcienjdcaaLxSame
namespace Go.Proofs.Ytlkbapcienjdcaa
open Go.RowKit
attribute [local go_sem ↓] eqPT eqgP
section
variable {W : World}
/-- Is a text's one token of some kind and number, and all of it? -/
def rightB (kd : Int) (s : ByteArray) (n : Int) : Bool :=
  match (lexS s.data.toList).1 with
  | [τ] => sameT τ.kind ⟨τ.text.toArray⟩ τ.n τ.at_ kd s n 0
  | _ => false
theorem row_at {w : World} {base : Nat} {t : TypeId} {v : Value} {ts : List Tok} (h : w.ownsRow base t 4 v ts.length (tcells ts)) (h0 : 0 < ts.length) : ∃ g c, v = .slice (some ⟨g, 0, none⟩) ts.length c ∧ ts.length ≤ c ∧ ∀ (i : Nat) (x : Tok), ts[i]? = some x → w.cell? ⟨g, i * 4, none⟩ = some (.int .i64 x.kind) ∧ w.cell? ⟨g, i * 4 + 1, none⟩ = some (.string ⟨x.text.toArray⟩) ∧ w.cell? ⟨g, i * 4 + 2, none⟩ = some (.int .i64 x.n) ∧ w.cell? ⟨g, i * 4 + 3, none⟩ = some (.int .i64 x.at_) := by
  have h' := h
  rcases h.2 with ⟨-, e⟩ | ⟨g, cap, cur, rfl, -, -, hc, -⟩
  · omega
  · refine ⟨g, cap, rfl, hc, fun i x hx => ?_⟩
    have hi := (List.getElem?_eq_some_iff.1 hx).1
    obtain ⟨c0, c1, c2, c3⟩ := tcells_at hx
    have hl := tcells_len ts
    exact ⟨(h'.cellAt (i * 4) (by omega)).trans c0, (h'.cellAt (i * 4 + 1) (by omega)).trans c1, (h'.cellAt (i * 4 + 2) (by omega)).trans c2, (h'.cellAt (i * 4 + 3) (by omega)).trans c3⟩
theorem row_len {w : World} {base : Nat} {t : TypeId} {v : Value} {ts : List Tok} (h : w.ownsRow base t 4 v ts.length (tcells ts)) : ∃ A c, v = .slice A ts.length c := by
  rcases h.2 with ⟨rfl, e⟩ | ⟨g, cap, cur, rfl, -⟩
  · exact ⟨none, 0, by rw [e]⟩
  · exact ⟨_, _, rfl⟩
set_option maxRecDepth 100000 in
set_option maxHeartbeats 3200000 in
theorem right_any (kd n a : Int) (s : ByteArray) (W : World) : Calls Try.prog 11 #[tokV kd s n a] W (fun e w' => e = .returned (.bool (rightB kd s n)) ∧ Below W.heap.size W w') := by
  have HLx : Hid (∀ w, Calls Try.prog 9 #[.string s] w (RetL 32 s.data.toList w)) := Lib.hid fun w => lex_any s w
  have HR : Hid (∀ q, rightB kd s n = q ↔ (match (lexS s.data.toList).1 with | [τ] => sameT τ.kind ⟨τ.text.toArray⟩ τ.n τ.at_ kd s n 0 | _ => false) = q) := Lib.hid fun q => Iff.rfl
  unfold RetL at HLx
  generalize lexS s.data.toList = res at *
  obtain ⟨ts, m, er⟩ := res
  simp only at HLx HR
  have B0 : Below W.heap.size W (W.alloc (.cells #[.int .i64 kd, .string s, .int .i64 n, .int .i64 0] 32)) := (Below.refl _ _).alloc (Nat.le_refl _) _
  have HB0 := Lib.hid B0
  have HK := Lib.hid (Blk.new W 32 #[.int .i64 kd, .string s, .int .i64 n, .int .i64 0])
  clear B0
  have arm : True := trivial
  by_cases h1 : ts.length = 1
  · obtain ⟨τ, rfl⟩ : ∃ τ, ts = [τ] := List.length_eq_one_iff.1 h1
    have HQ := Lib.hid ((HR.out _).2 rfl)
    have g1 : (((1 : Nat) : Int) == 1) = true := rfl
    clear h1 HR
    go_enter Try.func11, Try.ntmps11
    go_wp2_with (go_at_call 9; with_reducible refine (HLx.out _).mono ?_; rintro e w1 ⟨v, rfl, hown, hb⟩; obtain ⟨g, c, rfl, hgc, hat⟩ := row_at hown (by simp); have K1 := Lib.hid (HK.out.below hb HK.out.lt); have B1 := Lib.hid (HB0.out.trans (hb.mono HB0.out.size)); obtain ⟨y0, y1, y2, y3⟩ := hat 0 τ rfl; simp at y0 y1 y2 y3; have x0 := K1.out.cell 0; have x1 := K1.out.cell 1; have x2 := K1.out.cell 2; have x3 := K1.out.cell 3; simp at x0 x1 x2 x3; clear hown hb hat)
    go_quiet (fail)
    go_wp2
    go_ret
    exact ⟨by rw [HQ.out]; rfl, B1.out.trans ⟨rfl, rfl, rfl, Nat.le_refl _, fun _ _ => rfl⟩⟩
  · have HQ : Hid (rightB kd s n = false) := Lib.hid ((HR.out _).2 (by
      match ts, h1 with
      | [], _ => rfl
      | [τ], h => exact absurd rfl h
      | a :: b :: r, _ => rfl))
    have g1 : ((ts.length : Int) == 1) = false := by simp; omega
    clear h1 HR
    go_enter Try.func11, Try.ntmps11
    go_wp2_with (go_at_call 9; with_reducible refine (HLx.out _).mono ?_; rintro e w1 ⟨v, rfl, hown, hb⟩; obtain ⟨A, c, rfl⟩ := row_len hown; have B1 := Lib.hid (HB0.out.trans (hb.mono HB0.out.size)); clear hown hb)
    go_quiet (fail)
    go_wp2
    go_ret
    exact ⟨by rw [HQ.out]; rfl, B1.out.trans ⟨rfl, rfl, rfl, Nat.le_refl _, fun _ _ => rfl⟩⟩
end
end Go.Proofs.Ytlkbapcienjdcaa
