/- The contracts of New and Var. -/
import Derived.Test.YtdgjbbcalffbcaaBOps
namespace Go.Proofs.Ytdgjbbcalffbcaa
open Go.RowKit
attribute [local go_sem ↓] Go.wp_at_zero Go.wp_at_succ

def RetMgr (lim : Nat) (w : World) (e : Ending) (w' : World) : Prop :=
  ∃ (m : Nat) (own : Nat → Prop), e = .returned (.pointer (some ⟨m, 0, none⟩)) ∧ Mg w' own m lim [] ∧ Below w.heap.size w w' ∧ (∀ i, own i → w.heap.size ≤ i) ∧ w.heap.size ≤ m
theorem new_mgr {w w1 w2 : World} {lim n : Nat} (hA : Arena w1 (fun i => i = w.heap.size) w.heap.size lim []) (hb1 : Below w.heap.size w w1) (hM : Mem.MemoR w2 (w1.heap.size + 1) w1.heap.size n n Mem.noneP) (hb2 : Below w1.heap.size w1 w2) :
    RetMgr lim w (.returned (.pointer (some ⟨w2.heap.size, 0, none⟩))) (w2.alloc (.cells #[.pointer (some ⟨w.heap.size, 0, none⟩), .pointer (some ⟨w1.heap.size + 1, 0, none⟩)] 62)) := by
  have hb3 : Below w2.heap.size w2 (w2.alloc (.cells #[.pointer (some ⟨w.heap.size, 0, none⟩), .pointer (some ⟨w1.heap.size + 1, 0, none⟩)] 62)) := (Below.refl _ _).alloc (Nat.le_refl _) _
  have k1 := hb1.size
  have k2 := hb2.size
  have k3 := hb3.size
  have hq := hM.blk.lt
  have hA0 : w.heap.size < w1.heap.size := by
    obtain ⟨P, T, An, Ap, cn, cp, hR, -⟩ := hA
    exact hR.blk.lt
  refine ⟨w2.heap.size, fun i => i = w.heap.size ∨ i = w1.heap.size ∨ i = w1.heap.size + 1, rfl, ⟨w.heap.size, w1.heap.size + 1, w1.heap.size, n, n, Mem.noneP, fun i => i = w.heap.size, ?_⟩, (hb1.trans (hb2.mono k1)).trans (hb3.mono (by omega)), fun i hi => by omega, by omega⟩
  exact ⟨Blk.new _ _ _, (hA.below hb2).below hb3, hM.below hb3, sound_none _, fun k x h => by simp at h, by simp, fun i hi => .inl hi, .inr (.inr rfl), .inr (.inl rfl), by omega, by omega, by omega, fun i hi => by rw [World.size_alloc]; omega⟩
theorem New_any (n c : Int) (h : -9223372036854775808 ≤ n ∧ n ≤ 9223372036854775807) (w : World) : Calls Try.prog 10 #[.int .i64 n, .int .i64 c] w (RetMgr n.toNat w) := by
  have HN := Lib.hid (new_any n h w)
  have HC := Lib.hid (fun w => Mem.new_any c w)
  generalize Mem.sizeP c = k at HC
  clear h
  go_enter Try.func10, Try.ntmps10
  go_wp2_with (first
    | (go_at_call 30; ((with_reducible refine HN.out.mono ?_); rintro e w1 ⟨rfl, hA, hb1⟩))
    | (go_at_call 31; ((with_reducible refine (HC.out _).mono ?_); rintro e w2 ⟨rfl, hM, hb2⟩)))
  go_ret
  exact new_mgr hA hb1 hM hb2
section
variable {W : World} {own : Nat → Prop} {m lim : Nat} {L : List Nd}
/-- Mk of a variable that is none. -/
theorem mg_var {p q : Nat} (h : MG W own m lim L p q) (hl : lim ≤ 65536) {v : Int} (hv : ¬ (0 ≤ v ∧ v < 12)) :
    Calls Try.prog 49 #[.pointer (some ⟨p, 0, none⟩), .int .i64 v, .int .i64 (-1), .int .i64 (-2)] W fun e w' => ∃ (own' : Nat → Prop) (b : Nat) (a : Int), e = .returned (.tuple #[.int .i64 0, .iface 118 (.pointer (some ⟨b, 0, none⟩))]) ∧ Blk w' b 120 #[.string ⟨#[109, 107]⟩, .int .i64 a, .iface 54 (.int .i64 52)] ∧ Mg w' own' m lim L ∧ Went own W own' w' := by
  obtain ⟨g, n, c, T, ownA, h⟩ := h
  have hfit := h.fits
  refine (mk_any h.arena (v := v) (lo := -1) (hi := -2) (by omega)).mono ?_
  rintro e w' ⟨ev, ownA', rfl, he, hA', ho, hw⟩
  have hm : mkP lim L v (-1) (-2) = (L, 0, 52) := by unfold mkP; rw [if_pos (by omega)]
  rw [hm] at he hA' ⊢
  dsimp only at he hA' ⊢
  have far : ∀ i, i < W.heap.size → ¬ ownA i → ¬ ownA' i := fun i hi hn hj => (hw i hj).elim hn (by omega)
  have hw' : Went own W (fun i => own i ∨ ownA' i) w' := ⟨ho.mono fun i hi => .inl (h.mineA i hi), fun i hi => hi.elim .inl (fun hj => (hw i hj).imp (h.mineA i) id)⟩
  have hq := h.memo.blk.lt
  have hg := h.memo.glt
  have hmb := h.blk.lt
  have mg : Mg w' (fun i => own i ∨ ownA' i) m lim L := by
    refine ⟨p, q, g, n, c, T, ownA', ho.blk h.blk (fun hi => h.farM (h.mineA _ hi)), hA', h.memo.only ho h.farQ h.farG, h.sound, h.bools, hfit, fun i hi => .inr hi, .inl h.mineQ, .inl h.mineG, far q hq h.farQ, far g hg h.farG, fun hi => hi.elim h.farM (far m hmb (fun hj => h.farM (h.mineA _ hj))), fun i hi => hi.elim (fun hj => Nat.lt_of_lt_of_le (h.old i hj) ho.size) (fun hj => ?_)⟩
    obtain ⟨P, T, An, Ap, cn, cp, hR, -⟩ := hA'
    exact hR.old i hj
  rcases he with ⟨h, -⟩ | ⟨-, b, hb, rfl, hk⟩
  · cases h
  · exact ⟨_, b, _, rfl, hk, mg, hw'⟩
theorem Var_bad (hM : Mg W own m lim L) (hl : lim ≤ 65536) {v : Int} (hv : ¬ (0 ≤ v ∧ v < 12)) : Calls Try.prog 28 #[.pointer (some ⟨m, 0, none⟩), .int .i64 v] W (RetArg own m lim L W) := by
  obtain ⟨p, q, G, c0, -⟩ := mg_at hM
  have HK := Lib.hid (mg_var G hl hv)
  clear hM G hl hv
  go_enter Try.func28, Try.ntmps28
  go_wp2_with (first
    | (go_at_call 49; ((with_reducible refine HK.out.mono ?_); rintro e w1 ⟨own1, b, a, rfl, hb, m1, q1⟩); have HB := Lib.hid (hb.cell 2); clear hb)
    | (go_at_call 26; ((with_reducible refine (is_fault _ 52 _ HB.out).mono ?_); rintro e w2 ⟨rfl, rfl⟩)))
  go_ret2
  exact ⟨own1, rfl, m1, q1⟩
theorem grow_var {v : Nat} {lo hi : Int} {L' : List Nd} (h : L' = L ∨ L' = L ++ [((v : Int), lo, hi)]) : Grow2 (v : Int) L L' := by
  rcases h with rfl | rfl
  · exact grow2_refl _ _
  · refine ⟨⟨_, rfl⟩, fun N => ?_, fun N hN hv => ?_⟩
    · rw [lowN_app, lowN_one]
      dsimp only
      cases N with
      | zero => rw [if_neg (by omega)]; omega
      | succ N =>
        have := pow_pos2 N
        rw [Nat.pow_succ]
        split <;> omega
    · intro k x hk
      by_cases hl : k < L.length
      · rw [List.getElem?_append_left hl] at hk
        exact hN k x hk
      · have hkl := get_len hk
        simp at hkl
        obtain rfl : k = L.length := by omega
        rw [List.getElem?_append_right (Nat.le_refl _)] at hk
        simp at hk
        subst hk
        exact hv
theorem Var_good (hM : Mg W own m lim L) (hl : lim ≤ 65536) {v : Nat} (hv : v < 12) : Calls Try.prog 28 #[.pointer (some ⟨m, 0, none⟩), .int .i64 v] W (RetPub (fun b => b.testBit v) v own m lim L W) := by
  obtain ⟨p, q, G, c0, -⟩ := mg_at hM
  have t0 : Tells L (fun _ => false) (-1) := ⟨by unfold InB; omega, fun b => fn_false L b⟩
  have t1 : Tells L (fun _ => true) (-2) := ⟨by unfold InB; omega, fun b => fn_true L b⟩
  have HK := Lib.hid (mg_mk G hl hv t0 t1 (by rw [varP_neg (by omega)]; omega) (by rw [varP_neg (by omega)]; omega))
  have HF : Hid (∀ {L' : List Nd} {r : Int}, Tells L' (fun b => if b.testBit v = true then (fun _ => true) b else (fun _ => false) b) r → Tells L' (fun b => b.testBit v) r) := Lib.hid fun h => ⟨h.1, fun b => (h.2 b).trans (by dsimp only; cases b.testBit v <;> rfl)⟩
  clear hM G hl hv t0 t1
  go_enter Try.func28, Try.ntmps28
  go_wp2_with (first
    | (go_at_call 49; ((with_reducible refine HK.out.mono ?_); rintro e w1 ⟨own1, L1, m1, q1, g1, x1, ev1, rfl, (⟨rfl, t1⟩ | ⟨rfl, b, a, rfl, hb, hll⟩)⟩) <;> (try have HB := Lib.hid (hb.cell 2)))
    | (go_at_call 26; ((with_reducible refine (is_other _ 50 52 _ (by omega) HB.out).mono ?_); rintro e w2 ⟨rfl, rfl⟩))
    | (go_at_call 26; ((with_reducible refine (is_nil 52 _).mono ?_); rintro e w2 ⟨rfl, rfl⟩)))
  · go_ret2
    exact ⟨own1, L1, m1, q1, grow_var g1, told_ref (HF.out t1)⟩
  · go_ret2
    exact ⟨own1, L1, m1, q1, grow_var g1, told_full hb hll⟩
end
end Go.Proofs.Ytdgjbbcalffbcaa
