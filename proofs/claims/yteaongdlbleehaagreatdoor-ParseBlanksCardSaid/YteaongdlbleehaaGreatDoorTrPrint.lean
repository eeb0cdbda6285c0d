/- The tree layer: Text, and Print. -/
import Derived.Test.YteaongdlbleehaaGreatDoorTrStmtW
namespace Go.Proofs.YteaongdlbleehaaGreatDoor
open Go.RowKit
theorem Tabs.lt {w : World} (h : Tabs w) : 1 < w.heap.size := by
  unfold Tabs Lib.TabIs at h
  unfold World.var? at h
  rw [gPow] at h
  simp only [Option.bind_some] at h
  rcases Nat.lt_or_ge 1 w.heap.size with q | q
  · exact q
  · rw [Array.getElem?_eq_none q] at h; cases h
theorem wr_new (w : World) : Wr w.heap.size [] (w.alloc (.cells #[.pointer none, .slice none 0 0] 95)) :=
  ⟨Lib.IsBuilderF.of (Lib.fresh_isBuilder 95 5 w), fun _ => ⟨.pointer none, heap_alloc_new w _⟩⟩
section
set_option maxHeartbeats 3200000 in
set_option maxRecDepth 100000 in
theorem text_any (n : Nat) (l : List Ex) (op nm : ByteArray) (k a : Int) (v : Value) (P : Nat → Prop) (W : World) (h : ExR P n W l v) (hP : ∀ b, P b → b < W.heap.size) (ht : Tabs W) (hk : In64 k) (hlen : (form Lib.itoa op nm k (tL l)).length ≤ 140737488355328) :
    Calls Tryz.prog 18 #[exV op nm k v a] W fun e w' => e = .returned (.string ⟨(form Lib.itoa op nm k (tL l)).toArray⟩) ∧ Below W.heap.size W w' := by
  obtain ⟨A, cap, rfl, -, -⟩ := h.slice
  obtain ⟨W1, hW1⟩ : ∃ W1, W1 = W.alloc (.cells #[.string op, .string nm, .int .i64 k, .slice A l.length cap, .int .i64 a] 52) := ⟨_, rfl⟩
  have HK : Hid (Blk W1 W.heap.size 52 #[.string op, .string nm, .int .i64 k, .slice A l.length cap, .int .i64 a]) := Lib.hid (by rw [hW1]; exact Blk.new W _ _)
  have B1 : Hid (Below W.heap.size W W1) := Lib.hid (by rw [hW1]; exact (Below.refl _ _).alloc (Nat.le_refl _) _)
  have hsz : W1.heap.size = W.heap.size + 1 := by rw [hW1, World.size_alloc]
  obtain ⟨W2, hW2⟩ : ∃ W2, W2 = W1.alloc (.cells #[.pointer none, .slice none 0 0] 95) := ⟨_, rfl⟩
  have HWr : Hid (Wr W1.heap.size [] W2) := Lib.hid (by rw [hW2]; exact wr_new W1)
  have B2 : Hid (Below W1.heap.size W1 W2) := Lib.hid (by rw [hW2]; exact (Below.refl _ _).alloc (Nat.le_refl _) _)
  have HT : Hid (TabB W1.heap.size W2) := Lib.hid ⟨(ht.stays B1.out).stays B2.out, by have := ht.lt; omega⟩
  have HR := Lib.hid ((exprW_any n).1 W1.heap.size P [] l _ op nm k a W2 (h.below (thru B1.out B2.out) hP) (fun x hx => Nat.lt_of_lt_of_le (hP x hx) B1.out.size) HWr.out HT.out hk (by simpa using hlen))
  have HS : Hid (∀ w1, Wr W1.heap.size ([] ++ form Lib.itoa op nm k (tL l)) w1 → Calls Tryz.prog 45 #[.pointer (some ⟨W1.heap.size, 0, none⟩)] w1 fun e w' => e = .returned (.string ⟨(form Lib.itoa op nm k (tL l)).toArray⟩) ∧ Below W1.heap.size w1 w') := Lib.hid fun w1 h1 => string_wr h1
  have x0 := (HK.out.below B2.out HK.out.lt).cell 0
  have x1 := (HK.out.below B2.out HK.out.lt).cell 1
  have x2 := (HK.out.below B2.out HK.out.lt).cell 2
  have x3 := (HK.out.below B2.out HK.out.lt).cell 3
  have x4 := (HK.out.below B2.out HK.out.lt).cell 4
  simp at x0 x1 x2 x3 x4
  have HW1 := Lib.hid hW1
  have HW2 := Lib.hid hW2
  clear h hP ht hlen hk hW1 hW2 hsz
  go_enter Tryz.func18, Tryz.ntmps18
  go_upto_region 1 with fail
  rw [← HW1.out]
  go_upto_region 2 with fail
  rw [← HW2.out]
  go_wp2_with (first
    | (go_at_call 46; have HX := HR.out; (with_reducible refine HX.mono ?_); clear HX; rintro e w1 ⟨rfl, hb⟩; have R1 := Lib.hid hb; clear hb)
    | (go_at_call 45; have HX := HS.out _ R1.out.1; (with_reducible refine HX.mono ?_); clear HX; rintro e w2 ⟨rfl, hb⟩; have B5 := Lib.hid (thru B1.out (B2.out.trans (R1.out.2.1.trans hb))); clear hb))
  go_ret
  exact ⟨rfl, B5.out⟩
/-- A row of texts, put together. -/
theorem join_row (l : List ByteArray) (v : Value) (P : Nat → Prop) (w : World) (h : StrR P w l v) (hP : ∀ b, P b → b < w.heap.size) (hlen : (List.intercalate [44, 32] (l.map (·.data.toList))).length ≤ 140737488355328) :
    Calls Tryz.prog 42 #[v, .string ⟨#[44, 32]⟩] w fun e w' => e = .returned (.string ⟨(List.intercalate [44, 32] (l.map (·.data.toList))).toArray⟩) ∧ Below w.heap.size w w' := by
  obtain ⟨A, cap, rfl, hc, hl, hat⟩ := h
  rcases Nat.eq_zero_or_pos l.length with h0 | h0
  · have := List.length_eq_zero_iff.1 h0
    subst this
    exact (Tryz.strings_Join_none A cap ⟨#[44, 32]⟩ w).mono fun e w' ⟨h1, h2⟩ => ⟨h1, h2 ▸ Below.refl _ _⟩
  · obtain ⟨x, hx⟩ : ∃ x, l[0]? = some x := ⟨l[0]'h0, List.getElem?_eq_getElem _⟩
    obtain ⟨b, off, rfl, hb, -⟩ := hat 0 x hx
    exact Tryz.strings_Join b off cap l ⟨#[44, 32]⟩ w (fun j y hy => by
      obtain ⟨b', off', e, -, e2⟩ := hat j y hy
      injection e with e
      injection e with e1 e3
      subst e1 e3
      exact e2) (hP b hb) (by omega) hc hlen
def VarW : Prop := ∀ (b : Nat) (acc : Bs) (x y : ByteArray) (k : Int) (w : World), Wr b acc w → TabB b w → In64 k → acc.length + (varF Lib.itoa (x, y, k)).length ≤ 140737488355328 →
  Calls Tryz.prog 43 #[.pointer (some ⟨b, 0, none⟩), .agg #[.string x, .string y, .int .i64 k]] w fun e w' => e = .returned (.tuple #[]) ∧ RetWr b (acc ++ varF Lib.itoa (x, y, k)) w w'
set_option maxHeartbeats 3200000 in
set_option maxRecDepth 100000 in
theorem var_any : VarW := by
  intro b acc x y k w hw ht hk hlen
  have HT := Lib.hid ht
  have HI := Lib.hid hk
  obtain ⟨W0, hW0⟩ : ∃ W0, W0 = w.alloc (.cells #[.string x, .string y, .int .i64 k] 70) := ⟨_, rfl⟩
  have R0 : Hid (RetWr b acc w W0) := Lib.hid (by rw [hW0]; exact (RetWr.refl hw).alloc _)
  have HK : Hid (Blk W0 w.heap.size 70 #[.string x, .string y, .int .i64 k]) := Lib.hid (by rw [hW0]; exact Blk.new w _ _)
  have HW0 := Lib.hid hW0
  have HNe : Hid (w.heap.size ≠ b) := Lib.hid (Nat.ne_of_gt hw.lt)
  have HC : Hid (∀ w1, Kept b W0 w1 → w1.cell? ⟨w.heap.size, 2, none⟩ = some (.int .i64 k)) := Lib.hid fun w1 hk1 => (HK.out.keptW hk1 HNe.out (by decide)).cell 2
  have x0 := HK.out.cell 0
  have x1 := HK.out.cell 1
  simp at x0 x1
  clear hw ht hk hW0
  unfold varF at hlen ⊢
  simp only at hlen ⊢
  by_cases h0 : 0 < k
  · rw [if_pos h0] at hlen ⊢
    simp only [List.length_append, List.length_cons, List.length_nil, list_size_] at hlen
    have g1 : decide (0 < k) = true := decide_eq_true h0
    have H1 := Lib.hid (texts4 ⟨#[118, 97, 114, 32]⟩ x ⟨#[58, 32]⟩ y [118, 97, 114, 32] x.data.toList [58, 32] y.data.toList rfl rfl rfl rfl R0.out.1 (by simp only [List.length_cons, List.length_nil, list_size_]; omega))
    have HIt : Hid (∀ w1, RetWr b (acc ++ ([118, 97, 114, 32] ++ (x.data.toList ++ ([58, 32] ++ y.data.toList)))) w w1 → _) := Lib.hid fun w1 h1 => Tryz.strconv_Itoa k HI.out.1 HI.out.2 w1 (h1.tab HT.out).1
    have H2 : Hid (∀ w1, Wr b (acc ++ ([118, 97, 114, 32] ++ (x.data.toList ++ ([58, 32] ++ y.data.toList)))) w1 → _) := Lib.hid fun w1 h1 => texts3 ⟨#[91]⟩ ⟨(Lib.itoa k).toArray⟩ ⟨#[93]⟩ [91] (Lib.itoa k) [93] rfl rfl rfl h1 (by simp only [List.length_append, List.length_cons, List.length_nil, list_size_]; omega)
    have H3 : Hid (∀ w1, Wr b (acc ++ ([118, 97, 114, 32] ++ (x.data.toList ++ ([58, 32] ++ y.data.toList))) ++ ([91] ++ (Lib.itoa k ++ [93]))) w1 → _) := Lib.hid fun w1 h1 => texts1 ⟨#[59, 10]⟩ [59, 10] rfl h1 (by simp only [List.length_append, List.length_cons, List.length_nil, list_size_]; omega)
    clear hlen
    go_enter Tryz.func43, Tryz.ntmps43
    go_upto_region 1 with fail
    rw [← HW0.out]
    go_wp2_with (first
      | (go_at_call 41; have HX := H1.out; (with_reducible refine HX.mono ?_); clear HX; rintro e w1 ⟨rfl, hb⟩; have R1 := Lib.hid (R0.out.trans hb); have y2 := HC.out _ hb.2.2; clear hb)
      | (go_at_call 74; have HX := HIt.out _ R1.out; (with_reducible refine HX.mono ?_); clear HX; rintro e w2 ⟨rfl, kk, os, hw1⟩; have B2 : Hid (Below w1.heap.size w1 w2) := Lib.hid (by rw [hw1]; exact Lib.below_grow _ _ (Nat.le_refl _) _ _); have R2 := Lib.hid (R1.out.quiet B2.out); clear hw1)
      | (go_at_call 41; have HX := H2.out _ R2.out.1; (with_reducible refine HX.mono ?_); clear HX; rintro e w3 ⟨rfl, hb⟩; have R3 := Lib.hid (R2.out.trans hb); clear hb)
      | (go_at_call 41; have HX := H3.out _ R3.out.1; (with_reducible refine HX.mono ?_); clear HX; rintro e w4 ⟨rfl, hb⟩; have R4 := Lib.hid (R3.out.trans hb); clear hb))
    go_end0
    exact ⟨rfl, R4.out.of (by simp)⟩
  · rw [if_neg h0] at hlen ⊢
    simp only [List.length_append, List.length_cons, List.length_nil, list_size_] at hlen
    have g1 : decide (0 < k) = false := decide_eq_false h0
    have H1 := Lib.hid (texts4 ⟨#[118, 97, 114, 32]⟩ x ⟨#[58, 32]⟩ y [118, 97, 114, 32] x.data.toList [58, 32] y.data.toList rfl rfl rfl rfl R0.out.1 (by simp only [List.length_cons, List.length_nil, list_size_]; omega))
    have H3 : Hid (∀ w1, Wr b (acc ++ ([118, 97, 114, 32] ++ (x.data.toList ++ ([58, 32] ++ y.data.toList)))) w1 → _) := Lib.hid fun w1 h1 => texts1 ⟨#[59, 10]⟩ [59, 10] rfl h1 (by simp only [List.length_append, List.length_cons, List.length_nil, list_size_]; omega)
    clear hlen
    go_enter Tryz.func43, Tryz.ntmps43
    go_upto_region 1 with fail
    rw [← HW0.out]
    go_wp2_with (first
      | (go_at_call 41; have HX := H1.out; (with_reducible refine HX.mono ?_); clear HX; rintro e w1 ⟨rfl, hb⟩; have R1 := Lib.hid (R0.out.trans hb); have y2 := HC.out _ hb.2.2; clear hb)
      | (go_at_call 41; have HX := H3.out _ R1.out.1; (with_reducible refine HX.mono ?_); clear HX; rintro e w4 ⟨rfl, hb⟩; have R4 := Lib.hid (R1.out.trans hb); clear hb))
    go_end0
    exact ⟨rfl, R4.out.of (by simp)⟩
theorem flatMap_take {α : Type} (f : α → Bs) {l : List α} {k : Nat} {x : α} (h : l[k]? = some x) : (l.take (k + 1)).flatMap f = (l.take k).flatMap f ++ f x := by
  rw [take_one h]; simp
theorem flatMap_le {α : Type} (f : α → Bs) {l : List α} {k : Nat} {x : α} (h : l[k]? = some x) : ((l.take k).flatMap f).length + (f x).length ≤ (l.flatMap f).length := by
  have h1 := congrArg List.length (flatMap_take f h)
  have h2 : (l.flatMap f).length = ((l.take (k + 1)).flatMap f).length + ((l.drop (k + 1)).flatMap f).length := by rw [← List.length_append, ← List.flatMap_append, List.take_append_drop]
  rw [List.length_append] at h1
  omega
/-- What is known while Print goes. -/
structure PrS (W W2 : World) (n b : Nat) (p : Pg) (P : Nat → Prop) (vE vV vP vM : Value) (acc : Bs) (w : World) : Prop where
  wr : RetWr b acc W2 w
  pg : PgR P n w p vE vV vP vM
  box : Blk w W.heap.size 28 #[vE, vV, vP, vM]
  tab : TabB b w
section
variable {W W2 w w1 : World} {n b : Nat} {p : Pg} {P : Nat → Prop} {vE vV vP vM : Value} {acc acc' : Bs}
theorem PrS.step (h : PrS W W2 n b p P vE vV vP vM acc w) (hr : RetWr b acc' w w1) (hP : ∀ x, P x → x < b) (hb : W.heap.size < b) : PrS W W2 n b p P vE vV vP vM acc' w1 :=
  ⟨h.wr.trans hr, h.pg.below hr.2.1 hP, h.box.below hr.2.1 hb, hr.tab h.tab⟩
theorem PrS.alloc (h : PrS W W2 n b p P vE vV vP vM acc w) (hP : ∀ x, P x → x < b) (hb : W.heap.size < b) (o : Obj) : PrS W W2 n b p P vE vV vP vM acc (w.alloc o) := h.step ((RetWr.refl h.wr.1).alloc o) hP hb
theorem PrS.of (h : PrS W W2 n b p P vE vV vP vM acc w) (e : acc = acc') : PrS W W2 n b p P vE vV vP vM acc' w := e ▸ h
end
set_option maxHeartbeats 12800000 in
set_option maxRecDepth 100000 in
theorem print_any (n : Nat) (p : Pg) (vE vV vP vM : Value) (P : Nat → Prop) (W : World) (h : PgR P n W p vE vV vP vM) (hP : ∀ b, P b → b < W.heap.size) (ht : Tabs W) (hd : depB p.main ≤ 1099511627776 ∧ ∀ q ∈ p.procs, depB q.2 ≤ 1099511627776) (hlen : (printF Lib.itoa p).length ≤ 140737488355328) :
    Calls Tryz.prog 17 #[pgV vE vV vP vM] W fun e w' => e = .returned (.string ⟨(printF Lib.itoa p).toArray⟩) ∧ Below W.heap.size W w' := by
  obtain ⟨A1, c1, rfl, hc1, hl1⟩ := h.en.slice
  obtain ⟨A2, c2, rfl, hc2, hl2⟩ := h.va.slice
  obtain ⟨A3, c3, rfl, hc3, hl3⟩ := h.pr.slice
  obtain ⟨A4, c4, rfl, hc4, hl4⟩ := h.mn.slice
  obtain ⟨W1, hW1⟩ : ∃ W1, W1 = W.alloc (.cells #[.slice A1 p.enums.length c1, .slice A2 p.vars.length c2, .slice A3 p.procs.length c3, .slice A4 p.main.length c4] 28) := ⟨_, rfl⟩
  have B1 : Hid (Below W.heap.size W W1) := Lib.hid (by rw [hW1]; exact (Below.refl _ _).alloc (Nat.le_refl _) _)
  have hsz : W1.heap.size = W.heap.size + 1 := by rw [hW1, World.size_alloc]
  obtain ⟨b, hb⟩ : ∃ b, b = W1.heap.size := ⟨_, rfl⟩
  obtain ⟨W2, hW2⟩ : ∃ W2, W2 = W1.alloc (.cells #[.pointer none, .slice none 0 0] 95) := ⟨_, rfl⟩
  have B2 : Hid (Below b W1 W2) := Lib.hid (by rw [hW2, hb]; exact (Below.refl _ _).alloc (Nat.le_refl _) _)
  have HPb : Hid (∀ x, P x → x < b) := Lib.hid fun x hx => by have := hP x hx; omega
  have HWb : Hid (W.heap.size < b) := Lib.hid (by omega)
  have HK1 : Blk W1 W.heap.size 28 #[.slice A1 p.enums.length c1, .slice A2 p.vars.length c2, .slice A3 p.procs.length c3, .slice A4 p.main.length c4] := by rw [hW1]; exact Blk.new W _ _
  have X0 : Hid (PrS W W2 n b p P (.slice A1 p.enums.length c1) (.slice A2 p.vars.length c2) (.slice A3 p.procs.length c3) (.slice A4 p.main.length c4) [] W2) := Lib.hid ⟨RetWr.refl (by rw [hW2, hb]; exact wr_new W1), (h.below B1.out hP).below B2.out HPb.out, HK1.below B2.out HWb.out, ⟨(ht.stays B1.out).stays (B2.out.mono (by rw [hb]; exact Nat.le_refl _)), by have := ht.lt; omega⟩⟩
  have HEnd : Hid (∀ w1 w2, RetWr b (printF Lib.itoa p) W2 w1 → Below b w1 w2 → Below W.heap.size W w2) := Lib.hid fun w1 w2 h1 h2 => B1.out.trans (((B2.out.trans h1.2.1).trans h2).mono (by omega))
  have HLen := Lib.hid hlen
  have HD := Lib.hid hd
  have HB := Lib.hid hb
  have HW1 := Lib.hid hW1
  have HW2 := Lib.hid hW2
  have hl1' : p.enums.length ≤ 140737488355328 := by omega
  have hl2' : p.vars.length ≤ 140737488355328 := by omega
  have hl3' : p.procs.length ≤ 140737488355328 := by omega
  have HTot : Hid ((p.enums.flatMap enumF).length + (p.vars.flatMap (varF Lib.itoa)).length + (p.procs.flatMap (procF Lib.itoa)).length + 4 + (blockF 0 (tB p.main 1)).length + 1 ≤ 140737488355328) := Lib.hid (by
    have := hlen
    unfold printF at this
    simp only [List.length_append, List.length_cons, List.length_nil] at this
    omega)
  have HSt : Hid (∀ w1, Wr b (printF Lib.itoa p) w1 → Calls Tryz.prog 45 #[.pointer (some ⟨b, 0, none⟩)] w1 fun e w' => e = .returned (.string ⟨(printF Lib.itoa p).toArray⟩) ∧ Below b w1 w') := Lib.hid fun w1 h1 => string_wr h1
  have x0 := X0.out.box.cell 0
  simp at x0
  clear h hP ht hlen hd hW1 hW2 hsz hb hl1 hl2 hl3 hl4 hc4 HK1 HLen
  go_enter Tryz.func17, Tryz.ntmps17
  go_upto_region 1 with fail
  rw [← HW1.out]
  go_upto_region 2 with fail
  rw [← HW2.out, ← HB.out]
  go_wp2_with fail
  go_loopw [13] (fun i wr => ∃ k : Nat, i = .int .i64 (k : Int) ∧ k ≤ p.enums.length ∧ PrS W W2 n b p P (.slice A1 p.enums.length c1) (.slice A2 p.vars.length c2) (.slice A3 p.procs.length c3) (.slice A4 p.main.length c4) ((p.enums.take k).flatMap enumF) wr) (fun i _ => p.enums.length - (RowKit.intOf i).toNat)
  case atStart => exact ⟨0, rfl, Nat.zero_le _, X0.out⟩
  case round =>
    obtain ⟨k, rfl, hk, hs⟩ := hrel
    have HX := Lib.hid hs
    clear hs x0 X0
    by_cases hlt : k < p.enums.length
    · obtain ⟨x, hx⟩ : ∃ x, p.enums[k]? = some x := ⟨p.enums[k]'hlt, List.getElem?_eq_getElem _⟩
      obtain ⟨A0, c0, e0, -, -, hat⟩ := HX.out.pg.en
      injection e0 with e0 e1 e2
      subst e0
      obtain ⟨bb, off, L, rfl, hbB, hxx, hr⟩ := hat k x hx
      obtain ⟨x0, x1⟩ := hxx
      have hle := flatMap_le enumF hx
      have HS := Lib.hid (flatMap_take enumF hx)
      obtain ⟨W0, hW0⟩ : ∃ W0, W0 = wr.alloc (.cells #[.string x.1, L] 67) := ⟨_, rfl⟩
      have X1 : Hid (PrS W W2 n b p P (.slice (some ⟨bb, off, none⟩) p.enums.length c1) (.slice A2 p.vars.length c2) (.slice A3 p.procs.length c3) (.slice A4 p.main.length c4) ((p.enums.take k).flatMap enumF) W0) := Lib.hid (by rw [hW0]; exact HX.out.alloc HPb.out HWb.out _)
      have HK : Hid (Blk W0 wr.heap.size 67 #[.string x.1, L]) := Lib.hid (by rw [hW0]; exact Blk.new wr _ _)
      have HNe : Hid (wr.heap.size ≠ b) := Lib.hid (Nat.ne_of_gt HX.out.wr.1.lt)
      have B0 : Hid (Below wr.heap.size wr W0) := Lib.hid (by rw [hW0]; exact (Below.refl _ _).alloc (Nat.le_refl _) _)
      have HIc : Hid ((List.intercalate [44, 32] (x.2.map (·.data.toList))).length + x.1.size + 11 ≤ (enumF x).length) := Lib.hid (by unfold enumF; simp only [List.length_append, List.length_cons, List.length_nil, list_size_]; omega)
      have HLL : Hid (((p.enums.take k).flatMap enumF).length + (enumF x).length ≤ 140737488355328) := Lib.hid (by have := HTot.out; omega)
      have HJ := Lib.hid (join_row x.2 L P W0.drew (hr.kept fun b1 q => (B0.out.block b1 (Nat.lt_trans (HPb.out b1 q) HX.out.wr.1.lt))) (fun b1 q => Nat.lt_of_lt_of_le (Nat.lt_trans (HPb.out b1 q) HX.out.wr.1.lt) B0.out.size) (by have := HIc.out; have := HLL.out; omega))
      obtain ⟨AL, cL, rfl, -, -⟩ := hr.slice
      generalize hjn : List.intercalate [44, 32] (x.2.map (·.data.toList)) = jn at HJ HIc
      have HEf : Hid (enumF x = [101, 110, 117, 109, 32] ++ (x.1.data.toList ++ ([32, 123, 32] ++ (jn ++ [32, 125, 10])))) := Lib.hid (by unfold enumF; rw [hjn]; simp only [List.append_assoc])
      have HT5 : Hid (∀ w1, Wr b ((p.enums.take k).flatMap enumF) w1 → _) := Lib.hid fun w1 h1 => texts5 ⟨#[101, 110, 117, 109, 32]⟩ x.1 ⟨#[32, 123, 32]⟩ ⟨jn.toArray⟩ ⟨#[32, 125, 10]⟩ [101, 110, 117, 109, 32] x.1.data.toList [32, 123, 32] jn [32, 125, 10] rfl rfl rfl rfl rfl h1 (by have := HIc.out; have := HLL.out; simp only [List.length_cons, List.length_nil, list_size_]; omega)
      have HQ : Hid (∀ w1, Below W0.heap.size W0 w1 ∨ Kept b W0 w1 → w1.cell? ⟨wr.heap.size, 0, none⟩ = some (.string x.1) ∧ w1.cell? ⟨wr.heap.size, 1, none⟩ = some (.slice AL x.2.length cL)) := Lib.hid fun w1 hq => by
        rcases hq with q | q
        · exact ⟨(HK.out.below q HK.out.lt).cell 0, (HK.out.below q HK.out.lt).cell 1⟩
        · exact ⟨(HK.out.keptW q HNe.out (by decide)).cell 0, (HK.out.keptW q HNe.out (by decide)).cell 1⟩
      have RD : Hid (RetWr b ((p.enums.take k).flatMap enumF) W0 W0.drew) := Lib.hid ((RetWr.refl X1.out.wr.1).quiet (Below.refl _ _).drew)
      have K0 := Lib.hid (HQ.out W0.drew (.inl (Below.refl _ _).drew))
      have HW0 := Lib.hid hW0
      clear hat hr hx hle hjn hW0 e1 e2
      go_wp2_with fail
      rw [← HW0.out]
      go_region_held3 (fun w' => w'.cell? ⟨wr.heap.size, 0, none⟩ = some (.string x.1) ∧ w'.cell? ⟨wr.heap.size, 1, none⟩ = some (.slice AL x.2.length cL))
        (first | (with_reducible exact K0.out) | (with_reducible exact K1.out) | (with_reducible exact K2.out) | (with_reducible exact K3.out))
        (first
        | (go_at_call 42; have HZ := HJ.out; (with_reducible refine HZ.mono ?_); clear HZ; rintro e w1 ⟨rfl, hb⟩; have R1 := Lib.hid (RD.out.quiet hb); have K1 := Lib.hid (HQ.out w1 (.inr R1.out.2.2)); have R2 := Lib.hid (R1.out.alloc (.cells #[.string ⟨#[101, 110, 117, 109, 32]⟩, .string x.1, .string ⟨#[32, 123, 32]⟩, .string ⟨jn.toArray⟩, .string ⟨#[32, 125, 10]⟩] 9)); have K2 := Lib.hid (HQ.out _ (.inr R2.out.2.2)); clear hb)
        | (go_at_call 41; have HZ := HT5.out _ R1.out.1; (with_reducible refine HZ.mono ?_); clear HZ; rintro e w2 ⟨rfl, hb⟩; have R3 := Lib.hid (R1.out.trans hb); have K3 := Lib.hid (HQ.out w2 (.inr R3.out.2.2)); clear hb))
      all_goals go_wp2_with fail
      have X3 := Lib.hid (X1.out.step R3.out HPb.out HWb.out)
      go_roundw
      case rel => exact ⟨k + 1, by go_num, hlt, X3.out.of (by rw [HS.out, HEf.out])⟩
      case measure => simp [RowKit.intOf]; omega
    · have he : k = p.enums.length := by omega
      subst he
      rw [List.take_length] at HX
      have x1 := HX.out.box.cell 1
      simp at x1
      clear hlt hk
      obtain ⟨wa, rfl⟩ : ∃ q, q = wr := ⟨_, rfl⟩
      go_wp2_with fail
      go_loopw [28] (fun i wr => ∃ k : Nat, i = .int .i64 (k : Int) ∧ k ≤ p.vars.length ∧ PrS W W2 n b p P (.slice A1 p.enums.length c1) (.slice A2 p.vars.length c2) (.slice A3 p.procs.length c3) (.slice A4 p.main.length c4) (p.enums.flatMap enumF ++ (p.vars.take k).flatMap (varF Lib.itoa)) wr) (fun i _ => p.vars.length - (RowKit.intOf i).toNat)
      case atStart => exact ⟨0, rfl, Nat.zero_le _, HX.out.of (by simp)⟩
      case round =>
        obtain ⟨k, rfl, hk, hs⟩ := hrel
        have HY := Lib.hid hs
        clear hs x1 HX
        by_cases hlt : k < p.vars.length
        · obtain ⟨x, hx⟩ : ∃ x, p.vars[k]? = some x := ⟨p.vars[k]'hlt, List.getElem?_eq_getElem _⟩
          obtain ⟨A0, c0, e0, -, -, hat⟩ := HY.out.pg.va
          injection e0 with e0 e1 e2
          subst e0
          obtain ⟨bb, off, rfl, hbB, hxx, hi⟩ := hat k x hx
          obtain ⟨x0, x1, x2⟩ := hxx
          have hle := flatMap_le (varF Lib.itoa) hx
          have HS := Lib.hid (flatMap_take (varF Lib.itoa) hx)
          obtain ⟨xa, xb, xc⟩ := x
          simp only at x0 x1 x2 hi
          obtain ⟨W0, hW0⟩ : ∃ W0, W0 = wr.alloc (.cells #[.string xa, .string xb, .int .i64 xc] 70) := ⟨_, rfl⟩
          have X1 : Hid (PrS W W2 n b p P (.slice A1 p.enums.length c1) (.slice (some ⟨bb, off, none⟩) p.vars.length c2) (.slice A3 p.procs.length c3) (.slice A4 p.main.length c4) (p.enums.flatMap enumF ++ (p.vars.take k).flatMap (varF Lib.itoa)) W0) := Lib.hid (by rw [hW0]; exact HY.out.alloc HPb.out HWb.out _)
          have HK : Blk W0 wr.heap.size 70 #[.string xa, .string xb, .int .i64 xc] := by rw [hW0]; exact Blk.new wr _ _
          have HV := Lib.hid (var_any b _ xa xb xc W0 X1.out.wr.1 X1.out.tab hi (by have := HTot.out; rw [List.length_append]; omega))
          have y0 := HK.cell 0
          have y1 := HK.cell 1
          have y2 := HK.cell 2
          simp at y0 y1 y2
          have HW0 := Lib.hid hW0
          clear hat hx hle hW0 e1 e2 HK hi
          go_upto_region 10 with fail
          rw [← HW0.out]
          go_wp2_with (go_at_call 43; have HZ := HV.out; (with_reducible refine HZ.mono ?_); clear HZ; rintro e w2 ⟨rfl, hb⟩; have X3 := Lib.hid (X1.out.step hb HPb.out HWb.out); clear hb)
          go_roundw
          case rel => exact ⟨k + 1, by go_num, hlt, X3.out.of (by rw [HS.out, List.append_assoc])⟩
          case measure => simp [RowKit.intOf]; omega
        · have he : k = p.vars.length := by omega
          subst he
          rw [List.take_length] at HY
          have x2 := HY.out.box.cell 2
          simp at x2
          clear hlt hk
          obtain ⟨wb, rfl⟩ : ∃ q, q = wr := ⟨_, rfl⟩
          go_wp2_with fail
          go_loopw [38] (fun i wr => ∃ k : Nat, i = .int .i64 (k : Int) ∧ k ≤ p.procs.length ∧ PrS W W2 n b p P (.slice A1 p.enums.length c1) (.slice A2 p.vars.length c2) (.slice A3 p.procs.length c3) (.slice A4 p.main.length c4) (p.enums.flatMap enumF ++ p.vars.flatMap (varF Lib.itoa) ++ (p.procs.take k).flatMap (procF Lib.itoa)) wr) (fun i _ => p.procs.length - (RowKit.intOf i).toNat)
          case atStart => exact ⟨0, rfl, Nat.zero_le _, HY.out.of (by simp)⟩
          case round =>
            obtain ⟨k, rfl, hk, hs⟩ := hrel
            have HY2 := Lib.hid hs
            clear hs x2 HY
            by_cases hlt : k < p.procs.length
            · obtain ⟨x, hx⟩ : ∃ x, p.procs[k]? = some x := ⟨p.procs[k]'hlt, List.getElem?_eq_getElem _⟩
              obtain ⟨A0, c0, e0, -, -, hat⟩ := HY2.out.pg.pr
              injection e0 with e0 e1 e2
              subst e0
              obtain ⟨bb, off, L, rfl, hbB, hxx, hr⟩ := hat k x hx
              obtain ⟨x0, x1⟩ := hxx
              have hle := flatMap_le (procF Lib.itoa) hx
              have HS := Lib.hid (flatMap_take (procF Lib.itoa) hx)
              have hdx : depB x.2 ≤ 1099511627776 := HD.out.2 x (List.mem_of_getElem? hx)
              have HPf : Hid (procF Lib.itoa x = ([112, 114, 111, 99, 32] ++ x.1.data.toList) ++ (blockF 0 (tB x.2 1) ++ [10])) := Lib.hid (by unfold procF; simp only [List.append_assoc])
              have hpl : (procF Lib.itoa x).length = 5 + x.1.size + (blockF 0 (tB x.2 1)).length + 1 := by rw [HPf.out]; simp only [List.length_append, List.length_cons, List.length_nil, list_size_]; omega
              have HLL : Hid ((p.enums.flatMap enumF ++ p.vars.flatMap (varF Lib.itoa) ++ (p.procs.take k).flatMap (procF Lib.itoa)).length + (5 + x.1.size + (blockF 0 (tB x.2 1)).length + 1) ≤ 140737488355328) := Lib.hid (by have := HTot.out; simp only [List.length_append]; omega)
              generalize hacc : p.enums.flatMap enumF ++ p.vars.flatMap (varF Lib.itoa) ++ (p.procs.take k).flatMap (procF Lib.itoa) = acc at HY2 HLL
              have HAcc := Lib.hid hacc
              obtain ⟨AL, cL, hL, -, -⟩ := hr.slice
              subst hL
              obtain ⟨W0, hW0⟩ : ∃ W0, W0 = wr.alloc (.cells #[.string x.1, .slice AL x.2.length cL] 73) := ⟨_, rfl⟩
              have X1 : Hid (PrS W W2 n b p P (.slice A1 p.enums.length c1) (.slice A2 p.vars.length c2) (.slice (some ⟨bb, off, none⟩) p.procs.length c3) (.slice A4 p.main.length c4) acc W0) := Lib.hid (by rw [hW0]; exact HY2.out.alloc HPb.out HWb.out _)
              have HK : Hid (Blk W0 wr.heap.size 73 #[.string x.1, .slice AL x.2.length cL]) := Lib.hid (by rw [hW0]; exact Blk.new wr _ _)
              have HNe : Hid (wr.heap.size ≠ b) := Lib.hid (Nat.ne_of_gt HY2.out.wr.1.lt)
              have hr0 : StR P n W0 x.2 (.slice AL x.2.length cL) := by
                rw [hW0]
                exact hr.below ((Below.refl _ _).alloc (Nat.le_refl _) _) (fun b1 q => Nat.lt_trans (HPb.out b1 q) HY2.out.wr.1.lt)
              have H1 := Lib.hid (texts2 ⟨#[112, 114, 111, 99, 32]⟩ x.1 [112, 114, 111, 99, 32] x.1.data.toList rfl rfl X1.out.wr.1 (by have := HLL.out; simp only [List.length_cons, List.length_nil, list_size_]; omega))
              have H2 : Hid (∀ w1, RetWr b (acc ++ ([112, 114, 111, 99, 32] ++ x.1.data.toList)) W0 w1 → Calls Tryz.prog 44 #[.pointer (some ⟨b, 0, none⟩), .slice AL x.2.length cL, .int .i64 0] w1 fun e w' => e = .returned (.tuple #[]) ∧ RetWr b (acc ++ ([112, 114, 111, 99, 32] ++ x.1.data.toList) ++ blockF 0 (tB x.2 1)) w1 w') := Lib.hid fun w1 h1 =>
                (stmtW_any n).1 b P _ x.2 _ 0 w1 (hr0.below h1.2.1 HPb.out) HPb.out h1.1 (h1.tab X1.out.tab) (by omega) (by have := HLL.out; show (acc ++ ([112, 114, 111, 99, 32] ++ x.1.data.toList)).length + (blockF 0 (tB x.2 1)).length ≤ 140737488355328; simp only [List.length_append, List.length_cons, List.length_nil, list_size_]; omega)
              have H3 : Hid (∀ w1, Wr b (acc ++ ([112, 114, 111, 99, 32] ++ x.1.data.toList) ++ blockF 0 (tB x.2 1)) w1 → _) := Lib.hid fun w1 h1 => texts1 ⟨#[10]⟩ [10] rfl h1 (by have := HLL.out; simp only [List.length_append, List.length_cons, List.length_nil, list_size_]; omega)
              have HC : Hid (∀ w1, Kept b W0 w1 → w1.cell? ⟨wr.heap.size, 1, none⟩ = some (.slice AL x.2.length cL)) := Lib.hid fun w1 hk1 => (HK.out.keptW hk1 HNe.out (by decide)).cell 1
              have y0 := HK.out.cell 0
              have y1 := HK.out.cell 1
              simp at y0 y1
              have HW0 := Lib.hid hW0
              clear hat hr hx hle hW0 e1 e2 hdx hpl hacc hr0
              go_upto_region 15 with fail
              rw [← HW0.out]
              go_wp2_with (first
                | (go_at_call 41; have HZ := H1.out; (with_reducible refine HZ.mono ?_); clear HZ; rintro e w2 ⟨rfl, hb⟩; have R1 := Lib.hid hb; have z1 := HC.out _ hb.2.2; clear hb y0 y1)
                | (go_at_call 44; have HZ := H2.out _ R1.out; (with_reducible refine HZ.mono ?_); clear HZ; rintro e w3 ⟨rfl, hb⟩; have R2 := Lib.hid (R1.out.trans hb); clear hb)
                | (go_at_call 41; have HZ := H3.out _ R2.out.1; (with_reducible refine HZ.mono ?_); clear HZ; rintro e w4 ⟨rfl, hb⟩; have X3 := Lib.hid (X1.out.step (R2.out.trans hb) HPb.out HWb.out); clear hb))
              go_roundw
              case rel => exact ⟨k + 1, by go_num, hlt, X3.out.of (by rw [HS.out, ← HAcc.out, HPf.out]; simp only [List.append_assoc])⟩
              case measure => simp [RowKit.intOf]; omega
            · have he : k = p.procs.length := by omega
              subst he
              rw [List.take_length] at HY2
              clear hlt hk
              obtain ⟨acc, hacc⟩ : ∃ acc, acc = p.enums.flatMap enumF ++ p.vars.flatMap (varF Lib.itoa) ++ p.procs.flatMap (procF Lib.itoa) := ⟨_, rfl⟩
              have HLL : Hid (acc.length + 4 + (blockF 0 (tB p.main 1)).length + 1 ≤ 140737488355328) := Lib.hid (by rw [hacc]; have := HTot.out; simp only [List.length_append]; omega)
              rw [← hacc] at HY2
              have HPf : Hid (acc ++ [109, 97, 105, 110] ++ blockF 0 (tB p.main 1) ++ [10] = printF Lib.itoa p) := Lib.hid (by rw [hacc]; rfl)
              have H1 := Lib.hid (texts1 ⟨#[109, 97, 105, 110]⟩ [109, 97, 105, 110] rfl HY2.out.wr.1 (by have := HLL.out; simp only [List.length_cons, List.length_nil]; omega))
              have H2 : Hid (∀ w1, RetWr b (acc ++ [109, 97, 105, 110]) wr w1 → Calls Tryz.prog 44 #[.pointer (some ⟨b, 0, none⟩), .slice A4 p.main.length c4, .int .i64 0] w1 fun e w' => e = .returned (.tuple #[]) ∧ RetWr b (acc ++ [109, 97, 105, 110] ++ blockF 0 (tB p.main 1)) w1 w') := Lib.hid fun w1 h1 =>
                (stmtW_any n).1 b P _ p.main _ 0 w1 (HY2.out.pg.mn.below h1.2.1 HPb.out) HPb.out h1.1 (h1.tab HY2.out.tab) (by have := HD.out.1; omega) (by have := HLL.out; show (acc ++ [109, 97, 105, 110]).length + (blockF 0 (tB p.main 1)).length ≤ 140737488355328; simp only [List.length_append, List.length_cons, List.length_nil]; omega)
              have H3 : Hid (∀ w1, Wr b (acc ++ [109, 97, 105, 110] ++ blockF 0 (tB p.main 1)) w1 → _) := Lib.hid fun w1 h1 => texts1 ⟨#[10]⟩ [10] rfl h1 (by have := HLL.out; simp only [List.length_append, List.length_cons, List.length_nil]; omega)
              have HC : Hid (∀ w1, Below b wr w1 → w1.cell? ⟨W.heap.size, 3, none⟩ = some (.slice A4 p.main.length c4)) := Lib.hid fun w1 hk1 => (HY2.out.box.below hk1 HWb.out).cell 3
              clear hacc
              go_wp2_with (first
                | (go_at_call 41; have HZ := H1.out; (with_reducible refine HZ.mono ?_); clear HZ; rintro e w2 ⟨rfl, hb⟩; have R1 := Lib.hid hb; have z3 := HC.out _ hb.2.1; clear hb)
                | (go_at_call 44; have HZ := H2.out _ R1.out; (with_reducible refine HZ.mono ?_); clear HZ; rintro e w3 ⟨rfl, hb⟩; have R2 := Lib.hid (R1.out.trans hb); clear hb)
                | (go_at_call 41; have HZ := H3.out _ R2.out.1; (with_reducible refine HZ.mono ?_); clear HZ; rintro e w4 ⟨rfl, hb⟩; have R3 : Hid (RetWr b (printF Lib.itoa p) wr w4) := Lib.hid ((R2.out.trans hb).of HPf.out); clear hb)
                | (go_at_call 45; have HZ := HSt.out _ R3.out.1; (with_reducible refine HZ.mono ?_); clear HZ; rintro e w5 ⟨rfl, hb⟩; have B5 := Lib.hid (HEnd.out _ _ (HY2.out.wr.trans R3.out) hb); clear hb))
              go_ret
              exact ⟨rfl, B5.out⟩
end
end Go.Proofs.YteaongdlbleehaaGreatDoor
