/- The lexer layer: Lex of the program. -/
import Derived.Test.YteaongdlbleehaaGreatDoorLxLexMath
import Derived.Laws.AppendOwn
import Derived.Laws.OwnMore
namespace Go.Proofs.YteaongdlbleehaaGreatDoor
open Go.RowKit
theorem own_below {w w' : World} {base : Nat} {e : TypeId} {size n : Nat} {v : Value} {xs : List Value} (h : w.ownsRow base e size v n xs) (hb : Below w.heap.size w w') : w'.ownsRow base e size v n xs := by
  refine ⟨h.1, ?_⟩
  rcases h.2 with h | ⟨g, cap, cur, e1, e2, hg, r⟩
  · exact .inl h
  · exact .inr ⟨g, cap, cur, e1, e2, (hb.block g (Array.getElem?_eq_some_iff.1 hg).1).trans hg, r⟩
theorem lxtinfo : (Tryz.prog.info? 49).map (fun i => (i.zero, i.size, i.bytes)) = some (some (.agg #[.int .i64 0, .string ⟨#[]⟩, .int .i64 0, .int .i64 0]), 4, 40) := by kernel_rfl
theorem news_quad (W : World) (x y z u : Value) (t : TypeId) : ∀ (j : Nat) (v : Value), [x, y, z, u][j]? = some v → (W.alloc (.cells #[x, y, z, u] t)).cell? ((⟨W.heap.size, 0, none⟩ : Addr).add j) = some v := fun j v hu => by
  have hh := heap_alloc_new W (.cells #[x, y, z, u] t)
  generalize W.alloc (.cells #[x, y, z, u] t) = W1 at *
  match j, hu with
  | 0, hu => simp at hu; subst hu; simp [World.cell?, Addr.add, hh]
  | 1, hu => simp at hu; subst hu; simp [World.cell?, Addr.add, hh]
  | 2, hu => simp at hu; subst hu; simp [World.cell?, Addr.add, hh]
  | 3, hu => simp at hu; subst hu; simp [World.cell?, Addr.add, hh]
  | k + 4, hu => simp at hu
theorem news_quad2 {g : Nat} (W : World) (hg : g = W.heap.size) (x y z u : Value) (t : TypeId) : ∀ (j : Nat) (v : Value), [x, y, z, u][j]? = some v → (W.alloc (.cells #[x, y, z, u] t)).cell? ((⟨g, 0, none⟩ : Addr).add j) = some v := by subst hg; exact news_quad W x y z u t
theorem quad_one (x : Int) (s : ByteArray) (y z : Int) : ∀ u ∈ [Value.int .i64 x, .string s, .int .i64 y, .int .i64 z], u.oneCell' = true := fun u hu => by
  simp at hu
  rcases hu with rfl | rfl | rfl | rfl <;> rfl
/-- What Lex tells: a row of tokens, or none. -/
def RetL (t : TypeId) (l : List UInt8) (W : World) (e : Ending) (w' : World) : Prop :=
  ∃ v, e = .returned (.tuple #[v, .int .i64 ((lexS l).2.1 : Int), .int .i64 ((lexS l).2.2 : Int)]) ∧ w'.ownsRow W.heap.size t 4 v (lexS l).1.length (tcells (lexS l).1) ∧ Below W.heap.size W w'
theorem retL_none {t : TypeId} {l : List UInt8} {W w' : World} {n e : Nat} (h : lexS l = ([], n, e)) (hb : Below W.heap.size W w') : RetL t l W (.returned (.tuple #[.slice none 0 0, .int .i64 (n : Int), .int .i64 (e : Int)])) w' := by
  unfold RetL
  rw [h]
  exact ⟨_, rfl, World.ownsRow_nil _ _ _ _, hb⟩
section
variable {W : World}
set_option maxRecDepth 100000 in
set_option maxHeartbeats 6400000 in
theorem lex_any (s : ByteArray) (W : World) : Calls Tryz.prog 15 #[.string s] W (RetL 49 s.data.toList W) := by
  obtain ⟨l, hl⟩ : ∃ l, s.data.toList = l := ⟨_, rfl⟩
  have hlen : l.length = s.size := by rw [← hl, list_size]
  rw [hl]
  by_cases h4 : 4096 < s.size
  · have HQ : Hid (lexS l = ([], 0, 111)) := Lib.hid (by unfold lexS; rw [if_pos (by omega)])
    clear hl hlen
    go_enter Tryz.func15, Tryz.ntmps15
    go_wp2_with fail
    go_ret3
    exact retL_none HQ.out (Below.refl _ _)
  · have h4' : s.size ≤ 4096 := by omega
    have HQ : Hid (lexS l = lexF (l.length + 1) l 0 []) := Lib.hid (by unfold lexS; rw [if_neg (by omega)])
    have HL := Lib.hid hl
    have HLen := Lib.hid hlen
    obtain ⟨i0, hi, hz0, hz1, hz2⟩ := info_parts lxtinfo
    clear hl hlen h4
    go_enter Tryz.func15, Tryz.ntmps15
    go_wp2_with fail
    go_loopw [5, 6] (fun v5 v6 wr => ∃ (pos fuel : Nat) (acc : List Tok), v6 = .int .i64 (pos : Int) ∧ wr.ownsRow W.heap.size 49 4 v5 acc.length (tcells acc) ∧ Below W.heap.size W wr ∧ pos ≤ s.size ∧ s.size < pos + fuel ∧ acc.length ≤ pos ∧ Hid (lexF fuel (l.drop pos) pos acc = lexS l)) (fun _ v6 _ => s.size - (RowKit.intOf v6).toNat)
    case atStart => exact ⟨0, l.length + 1, [], rfl, World.ownsRow_nil _ _ _ _, Below.refl _ _, Nat.zero_le _, by rw [HLen.out]; omega, Nat.le_refl _, Lib.hid (by rw [HQ.out]; rfl)⟩
    case round =>
      obtain ⟨pos, fuel, acc, rfl, hown, hbw, hps, hfu, hacc, HV⟩ := hrel
      by_cases hp : pos < s.size
      · obtain ⟨fuel, rfl⟩ : ∃ f', fuel = f' + 1 := ⟨fuel - 1, by omega⟩
        obtain ⟨c, r, hcr⟩ : ∃ c r, l.drop pos = c :: r := by
          have : pos < l.length := by rw [HLen.out]; exact hp
          exact ⟨_, _, drop_cons this⟩
        have hrl : r.length + 1 + pos = s.size := by
          have := congrArg List.length hcr
          rw [List.length_drop, HLen.out] at this
          simp only [List.length_cons] at this
          omega
        have hex : (s.extract pos s.size).data.toList = c :: r := by
          rw [Lib.extract_data, HL.out, hcr, List.take_of_length_le]
          simp only [List.length_cons]
          omega
        have hes : (s.extract pos s.size).size = r.length + 1 := by rw [← list_size, hex]; rfl
        have HFi : Hid (∀ w, Calls Tryz.prog 36 #[.string (s.extract pos s.size)] w (fun e w' => ∃ p k, e = .returned (.string p) ∧ p.size = k ∧ 1 ≤ k ∧ pos + k ≤ s.size ∧ Piece p c r k ∧ Below w.heap.size w w')) := Lib.hid fun w => (first_any _ (by omega) hex w).mono fun e w' ⟨k, h1, h2, h3, h4, h5⟩ => by
          have e1 := extract_cons hex h2
          have e2 : ((s.extract pos s.size).extract 0 k).size = k := by
            rw [← list_size, e1]
            simp only [List.length_cons, List.length_take]
            omega
          exact ⟨_, k, h1, e2, h2, by omega, ⟨h2, by omega, e2, e1, h4⟩, h5⟩
        have HSi : Hid (∀ w p k, Piece p c r k → Calls Tryz.prog 37 #[.string p] w (fun e w' => e = .returned (.bool (silentB c)) ∧ Below w.heap.size w w')) := Lib.hid fun w p k hP => silent_any p hP.hp w
        have HTo : Hid (∀ w p k, Piece p c r k → Calls Tryz.prog 38 #[.string p] w (fun e w' => e = .returned (tokR p (tokAt c r)) ∧ Below w.heap.size w w')) := Lib.hid fun w p k hP => by
          have := token_any p (by have := hP.hs; have := hP.hk; omega) hP.hp (fun hd => hP.digits hd) w
          rw [hP.tok] at this
          exact this
        have HCR := Lib.hid hcr
        have HB0 := Lib.hid hbw
        have HO0 := Lib.hid hown
        clear hex hes hrl hcr hown hbw
        cases hsi : silentB c
        · rw [hsi] at HSi
          have HS := Lib.hid hsi
          clear hsi
          cases hta : tokAt c r with
          | inr er =>
            rw [hta] at HTo
            have HT := Lib.hid hta
            have HE : Hid (lexS l = ([], pos, er)) := Lib.hid (by rw [← HV.out]; exact lexF_err HCR.out HS.out HT.out)
            rcases tokAt_err hta with rfl | rfl
            all_goals clear hta
            all_goals simp only [tokR] at HTo
            all_goals go_wp2_with (first
              | (go_at_call 36; with_reducible refine (HFi.out _).mono ?_; rintro e w1 ⟨p, k, rfl, hpk, hk1, hk2, hP, hb1⟩; have P1 := Lib.hid hP; have B1 := Lib.hid (HB0.out.trans (hb1.mono HB0.out.size)); clear hb1 hP)
              | (go_at_call 37; with_reducible refine (HSi.out _ _ _ P1.out).mono ?_; rintro e w2 ⟨rfl, hb2⟩; have B2 := Lib.hid (B1.out.trans (hb2.mono B1.out.size)); clear hb2)
              | (go_at_call 38; with_reducible refine (HTo.out _ _ _ P1.out).mono ?_; rintro e w3 ⟨rfl, hb3⟩; have B3 := Lib.hid (B2.out.trans (hb3.mono B2.out.size)); clear hb3))
            all_goals go_ret3
            all_goals exact retL_none HE.out (B3.out.alloc B3.out.size _)
          | inl kv =>
            obtain ⟨kd, v⟩ := kv
            rw [hta] at HTo
            have HT := Lib.hid hta
            obtain ⟨hkd, hv⟩ := tokAt_kind hta
            have HI := Lib.hid (And.intro hi (And.intro hz0 (And.intro hz1 hz2)))
            clear hta hi hz0 hz1 hz2
            simp only [tokR] at HTo
            go_wp2_with (first
              | (go_at_call 36; with_reducible refine (HFi.out _).mono ?_; rintro e w1 ⟨p, k, rfl, hpk, hk1, hk2, hP, hb1⟩; have P1 := Lib.hid hP; have B1 := Lib.hid (HB0.out.trans (hb1.mono HB0.out.size)); have O1 := Lib.hid (own_below HO0.out hb1); clear hb1 hP)
              | (go_at_call 37; with_reducible refine (HSi.out _ _ _ P1.out).mono ?_; rintro e w2 ⟨rfl, hb2⟩; have B2 := Lib.hid (B1.out.trans (hb2.mono B1.out.size)); have O2 := Lib.hid (own_below O1.out hb2); clear hb2)
              | (go_at_call 38; with_reducible refine (HTo.out _ _ _ P1.out).mono ?_; rintro e w3 ⟨rfl, hb3⟩; have B3 := Lib.hid (B2.out.trans (hb3.mono B2.out.size)); have O3 := Lib.hid (own_below O2.out hb3); clear hb3)
              | (at_builtin; refine wpList_append_own _ rfl _ _ 45 rfl W.heap.size 49 i0 (.agg #[.int .i64 0, .string ⟨#[]⟩, .int .i64 0, .int .i64 0]) 4 40 Tryz.underlying45 HI.out.1 HI.out.2.1 HI.out.2.2.1 HI.out.2.2.2 rfl (by decide) _ _ _ rfl ((O3.out.alloc _).alloc _) ⟨w3.heap.size + 1, 0, none⟩ 1 1 [.int .i64 (kd : Int), .string p, .int .i64 (v : Int), .int .i64 (pos : Int)] rfl rfl (news_quad2 _ (World.size_alloc _ _).symm _ _ _ _ _) (quad_one _ _ _ _) (by unfold maxLen; omega) (by omega) (by have := B3.out.size; simp; omega) ?_; intro v' w4 hown' hgrow4 _; have O4 := Lib.hid hown'; have B4 := Lib.hid (Below.grown ((B3.out.alloc B3.out.size _).alloc (by have := B3.out.size; simp; omega) _) hgrow4 (by have := B3.out.size; simp; omega) (fun j hj => (O3.out.lt _ hj).1)); clear hown' hgrow4))
            go_roundw
            case rel => exact ⟨pos + k, fuel, acc ++ [⟨kd, c :: r.take (k - 1), v, pos⟩], by go_num, by rw [List.length_append, tcells_snoc, ← ba_list P1.out.hp]; exact O4.out, B4.out, hk2, by omega, by rw [List.length_append]; simp; omega, Lib.hid (by rw [← HV.out]; exact (lexF_tok P1.out HCR.out HS.out HT.out).symm)⟩
            case measure => simp [RowKit.intOf]; omega
        · rw [hsi] at HSi
          have HS := Lib.hid hsi
          clear hsi
          go_wp2_with (first
              | (go_at_call 36; with_reducible refine (HFi.out _).mono ?_; rintro e w1 ⟨p, k, rfl, hpk, hk1, hk2, hP, hb1⟩; have P1 := Lib.hid hP; have B1 := Lib.hid (HB0.out.trans (hb1.mono HB0.out.size)); have O1 := Lib.hid (own_below HO0.out hb1); clear hb1 hP)
              | (go_at_call 37; with_reducible refine (HSi.out _ _ _ P1.out).mono ?_; rintro e w2 ⟨rfl, hb2⟩; have B2 := Lib.hid (B1.out.trans (hb2.mono B1.out.size)); have O2 := Lib.hid (own_below O1.out hb2); clear hb2))
          go_roundw
          case rel => exact ⟨pos + k, fuel, acc, by go_num, O2.out, B2.out, hk2, by omega, by omega, Lib.hid (by rw [← HV.out]; exact (lexF_silent P1.out HCR.out HS.out).symm)⟩
          case measure => simp [RowKit.intOf]; omega
      · have hpe : pos = s.size := by omega
        have HE : Hid (lexS l = (acc, pos, 0)) := Lib.hid (by rw [← HV.out]; exact lexF_end (by rw [HLen.out]; omega))
        clear HV hp
        go_wp2_with fail
        go_ret3
        unfold RetL
        rw [HE.out]
        exact ⟨_, by rw [hpe]; rfl, hown, hbw⟩
end
end Go.Proofs.YteaongdlbleehaaGreatDoor
