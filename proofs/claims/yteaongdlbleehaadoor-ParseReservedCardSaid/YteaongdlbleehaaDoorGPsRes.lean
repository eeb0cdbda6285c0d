/- Put together of: PsRes, PsResW. -/
import Derived.Test.YteaongdlbleehaaDoorPsSmall
import Derived.Test.YteaongdlbleehaaDoorPsAlive
/- The parse layer: the document's reserved names. -/
namespace Go.Proofs.YteaongdlbleehaaDoor
open Go.RowKit
section
variable {B b len k n : Nat} {M : Value} {s : PS} {w : World}
theorem res_take {t : Bs} {k : Nat} {x : Bs} (hx : resL[k]? = some x) (h : (resL.take k).contains t = false) (hne : (x == t) = false) : (resL.take (k + 1)).contains t = false := by
  rw [List.take_add_one, hx]
  simp only [Option.toList_some, List.contains_append, h, Bool.false_or]
  have : (t == x) = false := by
    rw [Bool.eq_false_iff] at hne ⊢
    exact fun q => hne (by simpa using (by simpa using q : t = x).symm)
  simpa using this
theorem tl_inj {X T : ByteArray} : X.toList = T.toList ↔ X = T := by
  rw [ByteArray.toList_eq, ByteArray.toList_eq]
  exact ⟨fun h => by cases X; cases T; simp at h; rw [h], fun h => by rw [h]⟩
theorem ba_iff {X T : ByteArray} : (X == T) = true ↔ X = T := by
  obtain ⟨a⟩ := X
  obtain ⟨b⟩ := T
  show (a == b) = true ↔ _
  simp
theorem res_hit {t : Bs} {k : Nat} (hx : resL[k]? = some t) : resL.contains t = true := by
  rw [List.contains_iff_mem]
  exact List.mem_of_getElem? hx
set_option maxHeartbeats 6400000 in
set_option maxRecDepth 100000 in
theorem rres_any (t : Bs) (w : World) : Calls Tryd.prog 7 #[.string (bA t)] w fun e w' => e = .returned (.bool (resL.contains t)) ∧ Below w.heap.size w w' := by
  obtain ⟨T, hT⟩ : ∃ q, q = bA t := ⟨_, rfl⟩
  rw [← hT]
  have HT := Lib.hid hT
  obtain ⟨W1, hW1⟩ : ∃ q, q = w.alloc (.cells #[.string ⟨#[101, 110, 117, 109]⟩, .string ⟨#[118, 97, 114]⟩, .string ⟨#[112, 114, 111, 99]⟩, .string ⟨#[109, 97, 105, 110]⟩, .string ⟨#[105, 102]⟩, .string ⟨#[101, 108, 115, 101]⟩, .string ⟨#[119, 104, 105, 108, 101]⟩, .string ⟨#[97, 115, 115, 101, 114, 116]⟩, .string ⟨#[97, 115, 115, 117, 109, 101]⟩, .string ⟨#[99, 97, 108, 108]⟩, .string ⟨#[115, 107, 105, 112]⟩, .string ⟨#[105, 110, 112, 117, 116]⟩, .string ⟨#[116, 114, 117, 101]⟩, .string ⟨#[102, 97, 108, 115, 101]⟩, .string ⟨#[105, 110, 116]⟩, .string ⟨#[98, 111, 111, 108]⟩] 9) := ⟨_, rfl⟩
  have K1 : Hid (Blk W1 w.heap.size 9 #[.string ⟨#[101, 110, 117, 109]⟩, .string ⟨#[118, 97, 114]⟩, .string ⟨#[112, 114, 111, 99]⟩, .string ⟨#[109, 97, 105, 110]⟩, .string ⟨#[105, 102]⟩, .string ⟨#[101, 108, 115, 101]⟩, .string ⟨#[119, 104, 105, 108, 101]⟩, .string ⟨#[97, 115, 115, 101, 114, 116]⟩, .string ⟨#[97, 115, 115, 117, 109, 101]⟩, .string ⟨#[99, 97, 108, 108]⟩, .string ⟨#[115, 107, 105, 112]⟩, .string ⟨#[105, 110, 112, 117, 116]⟩, .string ⟨#[116, 114, 117, 101]⟩, .string ⟨#[102, 97, 108, 115, 101]⟩, .string ⟨#[105, 110, 116]⟩, .string ⟨#[98, 111, 111, 108]⟩]) := Lib.hid (by rw [hW1]; exact Blk.new w _ _)
  have B1 : Hid (Below w.heap.size w W1) := Lib.hid (by rw [hW1]; exact (Below.refl _ _).alloc (Nat.le_refl _) _)
  have HC : Hid (∀ (k : Nat) (x : Bs), resL[k]? = some x → W1.cell? ⟨w.heap.size, k, none⟩ = some (.string (bA x))) := Lib.hid fun k x hx => by
    rw [K1.out.cell k]
    have e : (#[.string ⟨#[101, 110, 117, 109]⟩, .string ⟨#[118, 97, 114]⟩, .string ⟨#[112, 114, 111, 99]⟩, .string ⟨#[109, 97, 105, 110]⟩, .string ⟨#[105, 102]⟩, .string ⟨#[101, 108, 115, 101]⟩, .string ⟨#[119, 104, 105, 108, 101]⟩, .string ⟨#[97, 115, 115, 101, 114, 116]⟩, .string ⟨#[97, 115, 115, 117, 109, 101]⟩, .string ⟨#[99, 97, 108, 108]⟩, .string ⟨#[115, 107, 105, 112]⟩, .string ⟨#[105, 110, 112, 117, 116]⟩, .string ⟨#[116, 114, 117, 101]⟩, .string ⟨#[102, 97, 108, 115, 101]⟩, .string ⟨#[105, 110, 116]⟩, .string ⟨#[98, 111, 111, 108]⟩] : Array Value) = (resL.map fun x => Value.string (bA x)).toArray := by rfl
    rw [e]
    simp [hx]
  have HW1 := Lib.hid hW1
  obtain ⟨rt, hrt⟩ : ∃ q, q = resL.contains t := ⟨_, rfl⟩
  rw [← hrt]
  have HRt := Lib.hid hrt
  clear hW1 hT hrt
  go_enter Tryd.func7, Tryd.ntmps7
  go_upto_region 2 with fail
  rw [← HW1.out]
  go_wp2
  go_loopw [4] (fun i wr => ∃ k : Nat, i = .int .i64 (k : Int) ∧ k ≤ 16 ∧ (resL.take k).contains t = false ∧ Hid (wr = W1)) (fun i _ => 16 - (RowKit.intOf i).toNat)
  case atStart => exact ⟨0, rfl, Nat.zero_le _, rfl, Lib.hid rfl⟩
  case round =>
    obtain ⟨k, rfl, hk, hr, HW⟩ := hrel
    have HR := Lib.hid hr
    clear hr
    by_cases hlt : k < 16
    · obtain ⟨x, hx⟩ : ∃ x, resL[k]? = some x := ⟨resL[k]'hlt, List.getElem?_eq_getElem _⟩
      have x0 : wr.cell? ⟨w.heap.size, k, none⟩ = some (.string (bA x)) := by rw [HW.out]; exact HC.out k x hx
      obtain ⟨X, hX⟩ : ∃ q, q = bA x := ⟨_, rfl⟩
      rw [← hX] at x0
      have hXT : (X == T) = (x == t) := by rw [hX, HT.out]; exact bA_beq x t
      have HX := Lib.hid hx
      cases hxt : (x == t)
      · have g1 : (X == T) = false := by rw [hXT, hxt]
        have g2 : decide (X = T) = false := by rw [← g1]; exact (Bool.eq_iff_iff.2 (by rw [decide_eq_true_iff]; exact ba_iff.symm))
        have g3 : (X.toList == T.toList) = false := by rw [← g1]; exact Bool.eq_iff_iff.2 (by rw [beq_iff_eq, tl_inj]; exact ba_iff.symm)
        have g4 : (X.data == T.data) = false := g1
        have HN := Lib.hid (res_take hx HR.out hxt)
        clear hXT hxt hx hX
        go_wp2_with fail
        go_roundw
        case rel => exact ⟨k + 1, by go_num, hlt, HN.out, HW⟩
        case measure => simp [RowKit.intOf]; omega
      · have g1 : (X == T) = true := by rw [hXT, hxt]
        have g2 : decide (X = T) = true := by rw [← g1]; exact (Bool.eq_iff_iff.2 (by rw [decide_eq_true_iff]; exact ba_iff.symm))
        have g3 : (X.toList == T.toList) = true := by rw [← g1]; exact Bool.eq_iff_iff.2 (by rw [beq_iff_eq, tl_inj]; exact ba_iff.symm)
        have g4 : (X.data == T.data) = true := g1
        have e2 : rt = true := by rw [HRt.out]; exact res_hit (by rw [hx]; exact congrArg some (by simpa using hxt))
        subst e2
        clear hXT hxt hx hX
        go_wp2_with fail
        go_ret
        exact ⟨rfl, by rw [HW.out]; exact B1.out⟩
    · have he : k = 16 := by omega
      subst he
      have e2 : rt = false := by rw [HRt.out]; exact HR.out
      subst e2
      go_wp2_with fail
      go_ret
      exact ⟨rfl, by rw [HW.out]; exact B1.out⟩
end
end Go.Proofs.YteaongdlbleehaaDoor

/- The parse layer: ParseReserved's walk. -/
namespace Go.Proofs.YteaongdlbleehaaDoor
open Go.RowKit
section
variable {B b len k n : Nat} {M : Value} {s : PS} {w : World}
theorem res_all : (resL.all fun w => ((exprT w).2.2 == 130) || ((exprT w).1.op.data.toList == w)) = true := by kernel_rfl
theorem res_expr {l : Bs} (h : resL.contains l = true) : (exprT l).2.2 = 130 ∨ (exprT l).1.op = bA l := by
  have := List.all_eq_true.1 res_all l (List.contains_iff_mem.1 h)
  rw [Bool.or_eq_true, beq_iff_eq, beq_iff_eq] at this
  rcases this with h | h
  · exact .inl h
  · exact .inr ((show bA (exprT l).1.op.data.toList = (exprT l).1.op from rfl).symm.trans (congrArg bA h))
theorem bA_back (s : ByteArray) : bA s.data.toList = s := rfl
set_option maxHeartbeats 6400000 in
set_option maxRecDepth 100000 in
theorem reserved_walk (s : ByteArray) (W : World) (ht : Tabs W) : Calls Tryd.prog 3 #[.string s] W (fun e w' => e = .returned (.bool true) ∧ Below W.heap.size W w') := by
  obtain ⟨l, hl⟩ : ∃ l, s = bA l := ⟨s.data.toList, (bA_back s).symm⟩
  obtain ⟨x, at', no, hx⟩ : ∃ x at' no, exprT l = (x, at', no) := ⟨_, _, _, rfl⟩
  have HEx : Hid (∀ w, Calls Tryd.prog 4 #[.string s] w (fun e w' => ∃ n A m c, e = .returned (.tuple #[exV x.op x.nm x.n (.slice A m c) x.a, .int .i64 (at' : Int), .int .i64 (no : Int)]) ∧ Below w.heap.size w w')) := Lib.hid fun w => by
    refine (Expr_any s w).mono fun e w' ⟨n, A, m, c, h, hb, _⟩ => ?_
    rw [hl, show (bA l).data.toList = l from rfl, hx] at h
    exact ⟨n, A, m, c, h, hb⟩
  have HAl : Hid (∀ w, Below W.heap.size W w → Calls Tryd.prog 5 #[] w (fun e w' => e = .returned (.bool true) ∧ Below w.heap.size w w')) := Lib.hid fun w hb => alive13_any w (ht.stays hb)
  obtain ⟨r, hr⟩ : ∃ r, r = resL.contains l := ⟨_, rfl⟩
  have HR1 : Hid (∀ w, Calls Tryd.prog 6 #[.string s] w (fun e w' => e = .returned (.bool r) ∧ w = w')) := Lib.hid fun w => by rw [hl, hr]; exact reserved_any l w
  have HR2 : Hid (∀ w, Calls Tryd.prog 7 #[.string s] w (fun e w' => e = .returned (.bool r) ∧ Below w.heap.size w w')) := Lib.hid fun w => by rw [hl, hr]; exact rres_any l w
  have HE : Hid (r = true → no = 130 ∨ x.op = s) := Lib.hid fun q => by
    have := res_expr (l := l) (by rw [← hr]; exact q)
    rw [hx] at this
    rw [hl]
    exact this
  clear hl hx hr ht
  go_enter Tryd.func3, Tryd.ntmps3
  go_upto_region 2 with (go_at_call 4; have HY := HEx.out W; (with_reducible refine HY.mono ?_); clear HY; rintro e w1 ⟨n1, A1, m1, c1, rfl, hb⟩; have B1 := Lib.hid hb; clear hb)
  obtain ⟨V1, hV⟩ : ∃ q, q = w1.alloc (.cells #[.string x.op, .string x.nm, .int .i64 x.n, .slice A1 m1 c1, .int .i64 x.a] 24) := ⟨_, rfl⟩
  have E1 : Hid (Below w1.heap.size w1 V1) := Lib.hid (by rw [hV]; exact (Below.refl _ _).alloc (Nat.le_refl _) _)
  have G1 : Hid (Blk V1 w1.heap.size 24 #[.string x.op, .string x.nm, .int .i64 x.n, .slice A1 m1 c1, .int .i64 x.a]) := Lib.hid (by rw [hV]; exact Blk.new w1 _ _)
  have BV : Hid (Below W.heap.size W V1) := Lib.hid (thru B1.out E1.out)
  rw [← hV]
  clear hV
  cases r
  · clear HE
    go_wp2_with (first
    | (go_at_call 5; have HY := HAl.out _ BV.out; (with_reducible refine HY.mono ?_); clear HY; rintro e w2 ⟨rfl, hb⟩; have B2 := Lib.hid (thru BV.out hb); have G2 := Lib.hid (G1.out.below hb G1.out.lt); clear hb)
    | (go_at_call 6; (with_reducible refine (HR1.out _).mono ?_); rintro e w3 ⟨rfl, rfl⟩)
    | (go_at_call 7; have HY := HR2.out w2; (with_reducible refine HY.mono ?_); clear HY; rintro e w4 ⟨rfl, hb⟩; have B4 := Lib.hid (thru B2.out hb); have G4 := Lib.hid (G2.out.below hb G2.out.lt); clear hb)
    | (go_at_call 7; have HY := HR2.out w4; (with_reducible refine HY.mono ?_); clear HY; rintro e w5 ⟨rfl, hb⟩; have B5 := Lib.hid (thru B4.out hb); have G5 := Lib.hid (G4.out.below hb G4.out.lt); clear hb))
    go_ret
    exact ⟨rfl, B5.out⟩
  · by_cases h130 : no = 130
    · have g0 : ((no : Int) == 130) = true := by rw [h130]; rfl
      clear HE h130
      go_wp2_with (first
    | (go_at_call 5; have HY := HAl.out _ BV.out; (with_reducible refine HY.mono ?_); clear HY; rintro e w2 ⟨rfl, hb⟩; have B2 := Lib.hid (thru BV.out hb); have G2 := Lib.hid (G1.out.below hb G1.out.lt); clear hb)
    | (go_at_call 6; (with_reducible refine (HR1.out _).mono ?_); rintro e w3 ⟨rfl, rfl⟩)
    | (go_at_call 7; have HY := HR2.out w2; (with_reducible refine HY.mono ?_); clear HY; rintro e w4 ⟨rfl, hb⟩; have B4 := Lib.hid (thru B2.out hb); have G4 := Lib.hid (G2.out.below hb G2.out.lt); clear hb)
    | (go_at_call 7; have HY := HR2.out w4; (with_reducible refine HY.mono ?_); clear HY; rintro e w5 ⟨rfl, hb⟩; have B5 := Lib.hid (thru B4.out hb); have G5 := Lib.hid (G4.out.below hb G4.out.lt); clear hb))
      go_ret
      exact ⟨rfl, B5.out⟩
    · have g0 : ((no : Int) == 130) = false := by simp; omega
      have hop : x.op = s := by
        rcases HE.out rfl with h | h
        · exact absurd h h130
        · exact h
      rw [hop] at G1
      clear HE h130 hop
      go_wp2_with (first
    | (go_at_call 5; have HY := HAl.out _ BV.out; (with_reducible refine HY.mono ?_); clear HY; rintro e w2 ⟨rfl, hb⟩; have B2 := Lib.hid (thru BV.out hb); have G2 := Lib.hid (G1.out.below hb G1.out.lt); clear hb)
    | (go_at_call 6; (with_reducible refine (HR1.out _).mono ?_); rintro e w3 ⟨rfl, rfl⟩)
    | (go_at_call 7; have HY := HR2.out w2; (with_reducible refine HY.mono ?_); clear HY; rintro e w4 ⟨rfl, hb⟩; have B4 := Lib.hid (thru B2.out hb); have G4 := Lib.hid (G2.out.below hb G2.out.lt); clear hb)
    | (go_at_call 7; have HY := HR2.out w4; (with_reducible refine HY.mono ?_); clear HY; rintro e w5 ⟨rfl, hb⟩; have B5 := Lib.hid (thru B4.out hb); have G5 := Lib.hid (G4.out.below hb G4.out.lt); have t0 := G5.out.cell 0; have t1 := G5.out.cell 1; have t2 := G5.out.cell 2; have t3 := G5.out.cell 3; have t4 := G5.out.cell 4; simp at t0 t1 t2 t3 t4; clear hb))
      go_ret
      exact ⟨rfl, B5.out⟩
end
end Go.Proofs.YteaongdlbleehaaDoor
