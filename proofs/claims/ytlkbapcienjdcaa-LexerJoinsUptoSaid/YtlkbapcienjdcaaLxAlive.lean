/- The lexer layer: the law's alive. -/
import Derived.Test.YtlkbapcienjdcaaLxJoin
namespace Go.Proofs.Ytlkbapcienjdcaa
open Go.RowKit
section
variable {W : World}
def ts4 : List Tok := [⟨0, [120], 0, 0⟩, ⟨2, [60, 61], 0, 1⟩, ⟨1, [49, 50], 12, 3⟩, ⟨2, [59], 0, 5⟩]
theorem lex_one : lexS (⟨#[120, 60, 61, 49, 50, 59, 32, 35, 32, 121]⟩ : ByteArray).data.toList = (ts4, 10, 0) := by kernel_rfl
theorem lex_two : lexS (⟨#[97, 32, 36]⟩ : ByteArray).data.toList = ([], 2, 110) := by kernel_rfl
theorem line_one : lc 1 1 ((⟨#[97, 10, 98, 99]⟩ : ByteArray).data.toList.take (cutN (⟨#[97, 10, 98, 99]⟩ : ByteArray).size 3)) = (2, 2) := by kernel_rfl
theorem join_one : Lib.join (ts4.map (·.text)) [32] = [120, 32, 60, 61, 32, 49, 50, 32, 59] := by kernel_rfl
theorem right_one : rightB 0 ⟨#[120]⟩ 0 = true := by kernel_rfl
set_option maxRecDepth 100000 in
set_option maxHeartbeats 6400000 in
theorem alive_any (W : World) : Calls Try.prog 8 #[] W (fun e w' => e = .returned (.bool true) ∧ Below W.heap.size W w') := by
  have HL1 : Hid (∀ w, Calls Try.prog 9 #[.string ⟨#[120, 60, 61, 49, 50, 59, 32, 35, 32, 121]⟩] w (fun e w' => ∃ g c, e = .returned (.tuple #[.slice (some ⟨g, 0, none⟩) 4 c, .int .i64 10, .int .i64 0]) ∧ w'.ownsRow w.heap.size 32 4 (.slice (some ⟨g, 0, none⟩) 4 c) 4 (tcells ts4) ∧ 4 ≤ c ∧ Below w.heap.size w w')) := Lib.hid fun w => (lex_any _ w).mono fun e w' ⟨v, h1, h2, h3⟩ => by
    rw [lex_one] at h1 h2
    obtain ⟨g, c, rfl, hgc, -⟩ := row_at h2 (by decide)
    exact ⟨g, c, h1, h2, hgc, h3⟩
  have HL2 : Hid (∀ w, Calls Try.prog 9 #[.string ⟨#[97, 32, 36]⟩] w (fun e w' => ∃ v, e = .returned (.tuple #[v, .int .i64 2, .int .i64 110]) ∧ Below w.heap.size w w')) := Lib.hid fun w => (lex_any _ w).mono fun e w' ⟨v, h1, h2, h3⟩ => by
    rw [lex_two] at h1
    exact ⟨v, h1, h3⟩
  have HLi : Hid (∀ w, Calls Try.prog 13 #[.string ⟨#[97, 10, 98, 99]⟩, .int .i64 3] w (fun e w' => e = .returned (.tuple #[.int .i64 2, .int .i64 2]) ∧ w' = w)) := Lib.hid fun w => (line_any _ (by decide) 3 w).mono fun e w' ⟨h1, h2⟩ => by
    rw [line_one] at h1
    exact ⟨h1, h2⟩
  have HJn : Hid (∀ w base v, w.ownsRow base 32 4 v 4 (tcells ts4) → Calls Try.prog 12 #[v] w (fun e w' => e = .returned (.string ⟨#[120, 32, 60, 61, 32, 49, 50, 32, 59]⟩) ∧ Below w.heap.size w w')) := Lib.hid fun w base v h => (join_any ts4 base v w (by decide) (by rw [join_one]; decide) h).mono fun e w' ⟨h1, h2⟩ => by
    rw [join_one] at h1
    exact ⟨h1, h2⟩
  have HRi : Hid (∀ w, Calls Try.prog 11 #[.agg #[.int .i64 0, .string ⟨#[120]⟩, .int .i64 0, .int .i64 0]] w (fun e w' => e = .returned (.bool true) ∧ Below w.heap.size w w')) := Lib.hid fun w => (right_any 0 0 0 ⟨#[120]⟩ w).mono fun e w' ⟨h1, h2⟩ => by
    rw [right_one] at h1
    exact ⟨h1, h2⟩
  have HCell : Hid (∀ (w : World) base g c, w.ownsRow base 32 4 (.slice (some ⟨g, 0, none⟩) 4 c) 4 (tcells ts4) → (w.cell? ⟨g, 0, none⟩ = some (.int .i64 0) ∧ w.cell? ⟨g, 1, none⟩ = some (.string ⟨#[120]⟩) ∧ w.cell? ⟨g, 2, none⟩ = some (.int .i64 0) ∧ w.cell? ⟨g, 3, none⟩ = some (.int .i64 0)) ∧ w.cell? ⟨g, 5, none⟩ = some (.string ⟨#[60, 61]⟩) ∧ w.cell? ⟨g, 10, none⟩ = some (.int .i64 12) ∧ w.cell? ⟨g, 15, none⟩ = some (.int .i64 5)) := Lib.hid fun w base g c h => ⟨⟨h.cellAt 0 (by decide), h.cellAt 1 (by decide), h.cellAt 2 (by decide), h.cellAt 3 (by decide)⟩, h.cellAt 5 (by decide), h.cellAt 10 (by decide), h.cellAt 15 (by decide)⟩
  go_enter Try.func8, Try.ntmps8
  go_wp2_with (first
    | (go_at_call 9; with_reducible refine (HL1.out _).mono ?_; rintro e w1 ⟨g, c, rfl, ho, hgc, hb⟩; have O1 := Lib.hid ho; have B1 := Lib.hid hb; clear ho hb)
    | (go_at_call 9; with_reducible refine (HL2.out _).mono ?_; rintro e w2 ⟨v2, rfl, hb⟩; have O2 := Lib.hid (own_below O1.out hb); have B2 := Lib.hid (B1.out.trans (hb.mono B1.out.size)); obtain ⟨⟨x0, x1, x2, x3⟩, x5, x10, x15⟩ := HCell.out _ _ _ _ O2.out; clear hb)
    | (go_at_call 13; with_reducible refine (HLi.out _).mono ?_; rintro e w3 ⟨rfl, rfl⟩)
    | (go_at_call 12; with_reducible refine (HJn.out _ _ _ O2.out).mono ?_; rintro e w4 ⟨rfl, hb⟩; have O4 := Lib.hid (own_below O2.out hb); have B4 := Lib.hid (B2.out.trans (hb.mono B2.out.size)); obtain ⟨⟨z0, z1, z2, z3⟩, z5, z10, z15⟩ := HCell.out _ _ _ _ O4.out; clear hb)
    | (go_at_call 11; with_reducible refine (HRi.out _).mono ?_; rintro e w5 ⟨rfl, hb⟩; have B5 := Lib.hid (B4.out.trans (hb.mono B4.out.size)); clear hb))
  all_goals go_ret
  all_goals first
    | exact ⟨rfl, B5.out⟩
    | skip
end
end Go.Proofs.Ytlkbapcienjdcaa
