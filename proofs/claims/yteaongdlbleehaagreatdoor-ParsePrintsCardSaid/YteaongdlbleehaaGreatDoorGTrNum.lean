/- Put together of: TrNum, TrNumR, TrNumS, TrOwn. -/
import Derived.Test.YteaongdlbleehaaGreatDoorTrBase
import Derived.Test.YteaongdlbleehaaGreatDoorLBlk
import Derived.Deep.LoopGhost
import Derived.Deep.RegionHeld3
import Derived.Deep.AppendLies
/- The tree layer: how many expressions there are. -/
namespace Go.Proofs.YteaongdlbleehaaGreatDoor
open Go.RowKit
theorem W64_add (a b : Nat) : wrap64 (W64 a + W64 b) = W64 (a + b) := by
  unfold W64
  simp only [IntWalk.i64_left]
  unfold wrap64
  omega
theorem W64_in (a : Nat) : -9223372036854775808 ≤ W64 a ∧ W64 a ≤ 9223372036854775807 := by
  unfold W64
  simp only [IntWalk.i64_left]
  unfold wrap64
  omega
theorem W64_len {a : Nat} (h : a ≤ 9223372036854775807) : W64 a = (a : Int) := by
  unfold W64
  simp only [IntWalk.i64_left]
  unfold wrap64
  omega
/-- The sum of some number over a row. -/
def sumF {α : Type} (f : α → Nat) : List α → Nat
  | [] => 0
  | x :: r => f x + sumF f r
theorem sumF_app {α : Type} (f : α → Nat) (l r : List α) : sumF f (l ++ r) = sumF f l + sumF f r := by
  induction l with
  | nil => simp [sumF]
  | cons x l ih => simp only [List.cons_append, sumF, ih]; omega
theorem take_one {α : Type} {l : List α} {k : Nat} {x : α} (h : l[k]? = some x) : l.take (k + 1) = l.take k ++ [x] := by
  rw [List.take_add_one, h]; rfl
theorem sumF_take {α : Type} (f : α → Nat) {l : List α} {k : Nat} {x : α} (h : l[k]? = some x) : sumF f (l.take (k + 1)) = sumF f (l.take k) + f x := by
  rw [take_one h, sumF_app]; simp [sumF]
theorem szL_sum (l : List Ex) : szL l = l.length + sumF (fun x => szL x.l) l := by
  induction l with
  | nil => rfl
  | cons x l ih =>
    cases x
    simp only [szL, szE, sumF, List.length_cons, Ex.l, ih]
    omega
theorem ret_int {a b : Int} (h : a = b) : Ending.returned (.int .i64 a) = .returned (.int .i64 b) := by rw [h]
theorem int_of {a b : Int} (h : a = b) : Value.int .i64 a = .int .i64 b := by rw [h]
section
variable {W : World}
set_option maxRecDepth 100000 in
set_option maxHeartbeats 3200000 in
theorem rsize_any (n : Nat) : ∀ (l : List Ex) (v : Value) (P : Nat → Prop) (W : World), ExR P n W l v → (∀ b, P b → b < W.heap.size) → Calls Tryz.prog 53 #[v] W (fun e w' => e = .returned (.int .i64 (W64 (szL l))) ∧ Below W.heap.size W w') := by
  induction n with
  | zero => intro l v P W h; exact h.elim
  | succ n ih =>
    intro l v P W h hP
    obtain ⟨A, cap, rfl, hc, hl, hat⟩ := h
    have HAt := Lib.hid hat
    have HIH := Lib.hid ih
    have HSum := Lib.hid (szL_sum l)
    have hl2 : l.length ≤ 2199023255552 := by omega
    have HL0 := Lib.hid (W64_len (a := l.length) (by omega))
    clear hat ih hl
    obtain ⟨m, hm⟩ : ∃ m, l.length = m := ⟨_, rfl⟩
    have HM := Lib.hid hm
    rw [hm] at hl2 hc HSum HL0 ⊢
    clear hm
    go_enter Tryz.func53, Tryz.ntmps53
    go_wp2
    go_loopw [3, 4] (fun s i wr => ∃ k : Nat, i = .int .i64 (k : Int) ∧ k ≤ m ∧ s = .int .i64 (W64 (m + sumF (fun x => szL x.l) (l.take k))) ∧ Below W.heap.size W wr) (fun _ i _ => m - (RowKit.intOf i).toNat)
    case atStart => exact ⟨0, rfl, Nat.zero_le _, by rw [List.take_zero]; simp only [sumF, Nat.add_zero]; rw [HL0.out], Below.refl _ _⟩
    case round =>
      obtain ⟨k, rfl, hk, rfl, hbw⟩ := hrel
      by_cases hlt : k < m
      · obtain ⟨x, hx⟩ : ∃ x, l[k]? = some x := ⟨l[k]'(by rw [HM.out]; exact hlt), List.getElem?_eq_getElem _⟩
        obtain ⟨b, off, L, rfl, hbB, hat, -, -, hr⟩ := HAt.out k x hx
        obtain ⟨x0, x1, x2, x3, x4⟩ := hat.below hbw (hP b hbB)
        obtain ⟨A', cap', rfl, hc', -⟩ := hr.slice
        have HS := Lib.hid (sumF_take (fun x => szL x.l) hx)
        have HBw := Lib.hid hbw
        have hs := HBw.out.size
        obtain ⟨sv, hsv⟩ : ∃ sv, sv = W64 (m + sumF (fun x => szL x.l) (l.take k)) := ⟨_, rfl⟩
        rw [← hsv]
        have HSV := Lib.hid hsv
        have hi := W64_in (m + sumF (fun x => szL x.l) (l.take k))
        rw [← hsv] at hi
        obtain ⟨tv, htv⟩ : ∃ tv, tv = W64 (szL x.l) := ⟨_, rfl⟩
        have HTV := Lib.hid htv
        have HC : Hid (Calls Tryz.prog 53 #[.slice A' x.l.length cap'] wr (fun e w' => e = .returned (.int .i64 tv) ∧ Below wr.heap.size wr w')) := Lib.hid (by
          rw [htv]
          exact HIH.out x.l _ P wr (hr.below hbw hP) (lo_up hP hbw.size))
        clear hsv htv hat hr hbw
        go_wp2_with (go_at_call 53; with_reducible refine (HC.out).mono ?_; rintro e w1 ⟨rfl, hb⟩; have HB2 := Lib.hid hb; clear hb)
        go_roundw
        case rel => exact ⟨k + 1, by go_num, hlt, by rw [HS.out, ← Nat.add_assoc, ← W64_add, ← HSV.out, ← HTV.out], HBw.out.trans (HB2.out.mono hs)⟩
        case measure => simp [RowKit.intOf]; omega
      · have he : k = m := by omega
        subst he
        have HF : Hid (W64 (k + sumF (fun x => szL x.l) (l.take k)) = W64 (szL l)) := Lib.hid (by rw [HSum.out, ← HM.out, List.take_length])
        go_wp2_with fail
        go_ret
        exact ⟨ret_int HF.out, hbw⟩
/-- The greatest depth of a row, so far. -/
theorem deepL_app (l r : List Ex) : deepL (l ++ r) = max (deepL l) (deepL r) := by
  induction l with
  | nil => simp [deepL]
  | cons x l ih => simp only [List.cons_append, deepL, ih]; omega
theorem deepL_take {l : List Ex} {k : Nat} {x : Ex} (h : l[k]? = some x) : deepL (l.take (k + 1)) = max (deepL (l.take k)) (1 + deepL x.l) := by
  rw [take_one h, deepL_app]
  cases x
  simp [deepL, deepE, Ex.l]
theorem deepL_mem {l : List Ex} {k : Nat} {x : Ex} (h : l[k]? = some x) : 1 + deepL x.l ≤ deepL l := by
  have h1 := deepL_take h
  have h2 : deepL l = max (deepL (l.take (k + 1))) (deepL (l.drop (k + 1))) := by rw [← deepL_app, List.take_append_drop]
  omega
theorem deepL_to (l : List Ex) (k : Nat) : deepL (l.take k) ≤ deepL l := by
  have h2 : deepL l = max (deepL (l.take k)) (deepL (l.drop k)) := by rw [← deepL_app, List.take_append_drop]
  omega
end
end Go.Proofs.YteaongdlbleehaaGreatDoor

/- The tree layer: how deep an expression is, by the document; how deep rows of statements are. -/
namespace Go.Proofs.YteaongdlbleehaaGreatDoor
open Go.RowKit
section
variable {W : World}
theorem run_max3 {P : Program} (w : World) (ts : Array TypeId) (t : TypeId) (x y z : Int) : (Builtin.max_ ts t #[.int .i64 x, .int .i64 y, .int .i64 z]).run P w = .ok (.int .i64 (max (max x y) z)) w := by
  simp [Builtin.max_, Builtin.max2]
  rw [Int.max_def, Int.max_def]
  split <;> split <;> split <;> omega
/-- The greatest depth of a row of statements, so far. -/
theorem depB_app (l r : List St) : depB (l ++ r) = max (depB l) (depB r) := by
  induction l with
  | nil => simp [depB]
  | cons x l ih => simp only [List.cons_append, depB, ih]; omega
theorem depB_take {l : List St} {k : Nat} {x : St} (h : l[k]? = some x) : depB (l.take (k + 1)) = max (depB (l.take k)) (1 + max (depB x.A) (depB x.B)) := by
  rw [take_one h, depB_app]
  cases x
  simp [depB, depS, St.A, St.B]
theorem depB_mem {l : List St} {k : Nat} {x : St} (h : l[k]? = some x) : 1 + max (depB x.A) (depB x.B) ≤ depB l := by
  have h1 := depB_take h
  have h2 : depB l = max (depB (l.take (k + 1))) (depB (l.drop (k + 1))) := by rw [← depB_app, List.take_append_drop]
  omega
theorem depB_to (l : List St) (k : Nat) : depB (l.take k) ≤ depB l := by
  have h2 : depB l = max (depB (l.take k)) (depB (l.drop k)) := by rw [← depB_app, List.take_append_drop]
  omega
attribute [local go_sem ↓] run_max3
end
end Go.Proofs.YteaongdlbleehaaGreatDoor

/- The tree layer: how many statements and expressions there are; how deep rows of statements are, by the document. -/
namespace Go.Proofs.YteaongdlbleehaaGreatDoor
open Go.RowKit
theorem W64_sum (a b : Nat) : IntKind.i64.wrap (W64 a + W64 b) = W64 (a + b) := by
  rw [IntWalk.i64_left]; exact W64_add a b
/-- What a statement has in it. -/
def inS (x : St) : Nat := szL x.e + szB x.A + szB x.B
theorem szB_sum (l : List St) : szB l = l.length + sumF inS l := by
  induction l with
  | nil => rfl
  | cons x l ih =>
    cases x
    simp only [szB, szS, sumF, List.length_cons, inS, St.e, St.A, St.B, ih]
    omega
section
variable {W : World}
set_option maxRecDepth 100000 in
set_option maxHeartbeats 3200000 in
theorem rSize_any (n : Nat) : ∀ (l : List St) (v : Value) (P : Nat → Prop) (W : World), StR P n W l v → (∀ b, P b → b < W.heap.size) → Calls Tryz.prog 22 #[v] W (fun e w' => e = .returned (.int .i64 (W64 (szB l))) ∧ Below W.heap.size W w') := by
  induction n with
  | zero => intro l v P W h; exact h.elim
  | succ n ih =>
    intro l v P W h hP
    obtain ⟨A, cap, rfl, hc, hl, hat⟩ := h
    have HAt := Lib.hid hat
    have HIH := Lib.hid ih
    have HSum := Lib.hid (szB_sum l)
    have hl2 : l.length ≤ 2199023255552 := by omega
    have HL0 := Lib.hid (W64_len (a := l.length) (by omega))
    clear hat ih hl
    obtain ⟨m, hm⟩ : ∃ m, l.length = m := ⟨_, rfl⟩
    have HM := Lib.hid hm
    rw [hm] at hl2 hc HSum HL0 ⊢
    clear hm
    go_enter Tryz.func22, Tryz.ntmps22
    go_wp2
    go_loopw [3, 4] (fun s i wr => ∃ k : Nat, i = .int .i64 (k : Int) ∧ k ≤ m ∧ s = .int .i64 (W64 (m + sumF inS (l.take k))) ∧ Below W.heap.size W wr) (fun _ i _ => m - (RowKit.intOf i).toNat)
    case atStart => exact ⟨0, rfl, Nat.zero_le _, by rw [List.take_zero]; simp only [sumF, Nat.add_zero]; rw [HL0.out], Below.refl _ _⟩
    case round =>
      obtain ⟨k, rfl, hk, rfl, hbw⟩ := hrel
      by_cases hlt : k < m
      · obtain ⟨x, hx⟩ : ∃ x, l[k]? = some x := ⟨l[k]'(by rw [HM.out]; exact hlt), List.getElem?_eq_getElem _⟩
        obtain ⟨b, off, LE, LA, LB, rfl, hbB, hat, -, hE, hA, hB'⟩ := HAt.out k x hx
        obtain ⟨x0, x1, x2, x3, x4, x5⟩ := hat.below hbw (hP b hbB)
        obtain ⟨Ae, ce, rfl, -, -⟩ := hE.slice
        obtain ⟨Aa, ca, rfl, -, -⟩ := hA.slice
        obtain ⟨Ab, cb, rfl, -, -⟩ := hB'.slice
        have HS := Lib.hid (sumF_take inS hx)
        have HBw := Lib.hid hbw
        have hs := HBw.out.size
        obtain ⟨sv, hsv⟩ : ∃ sv, sv = W64 (m + sumF inS (l.take k)) := ⟨_, rfl⟩
        obtain ⟨te, hte⟩ : ∃ te, te = W64 (szL x.e) := ⟨_, rfl⟩
        obtain ⟨ta, hta⟩ : ∃ ta, ta = W64 (szB x.A) := ⟨_, rfl⟩
        obtain ⟨tb, htb⟩ : ∃ tb, tb = W64 (szB x.B) := ⟨_, rfl⟩
        obtain ⟨u1, hu1⟩ : ∃ u1, u1 = W64 (m + sumF inS (l.take k) + szL x.e) := ⟨_, rfl⟩
        obtain ⟨u2, hu2⟩ : ∃ u2, u2 = W64 (m + sumF inS (l.take k) + szL x.e + szB x.A) := ⟨_, rfl⟩
        obtain ⟨u3, hu3⟩ : ∃ u3, u3 = W64 (m + sumF inS (l.take (k + 1))) := ⟨_, rfl⟩
        have g1 : IntKind.i64.wrap (sv + te) = u1 := by rw [hsv, hte, hu1, W64_sum]
        have g2 : IntKind.i64.wrap (u1 + ta) = u2 := by rw [hu1, hta, hu2, W64_sum]
        have g3 : IntKind.i64.wrap (u2 + tb) = u3 := by rw [hu2, htb, hu3, W64_sum, HS.out]; unfold inS; congr 1; omega
        rw [← hsv]
        have HQ : Hid (∀ w2, Below wr.heap.size wr w2 → Below W.heap.size W w2) := Lib.hid fun w2 hb2 => by
          exact thru hbw hb2
        have HCe : Hid (∀ w2, Below wr.heap.size wr w2 → Calls Tryz.prog 53 #[.slice Ae x.e.length ce] w2 (fun e w' => e = .returned (.int .i64 te) ∧ Below wr.heap.size wr w')) := Lib.hid fun w2 hb2 => by
          rw [hte]
          exact (rsize_any _ x.e _ P w2 (hE.below (HQ.out w2 hb2) hP) (lo_up hP (HQ.out w2 hb2).size)).mono fun e w' ⟨h1, h2⟩ => ⟨h1, hb2.trans (h2.mono hb2.size)⟩
        have HCa : Hid (∀ w2, Below wr.heap.size wr w2 → Calls Tryz.prog 22 #[.slice Aa x.A.length ca] w2 (fun e w' => e = .returned (.int .i64 ta) ∧ Below wr.heap.size wr w')) := Lib.hid fun w2 hb2 => by
          rw [hta]
          exact (HIH.out x.A _ P w2 (hA.below (HQ.out w2 hb2) hP) (lo_up hP (HQ.out w2 hb2).size)).mono fun e w' ⟨h1, h2⟩ => ⟨h1, hb2.trans (h2.mono hb2.size)⟩
        have HCb : Hid (∀ w2, Below wr.heap.size wr w2 → Calls Tryz.prog 22 #[.slice Ab x.B.length cb] w2 (fun e w' => e = .returned (.int .i64 tb) ∧ Below wr.heap.size wr w')) := Lib.hid fun w2 hb2 => by
          rw [htb]
          exact (HIH.out x.B _ P w2 (hB'.below (HQ.out w2 hb2) hP) (lo_up hP (HQ.out w2 hb2).size)).mono fun e w' ⟨h1, h2⟩ => ⟨h1, hb2.trans (h2.mono hb2.size)⟩
        have HU3 := Lib.hid hu3
        have HbB : Hid (b < wr.heap.size) := Lib.hid (lo_up hP hbw.size b hbB)
        have HXs : Hid (∀ w', Below wr.heap.size wr w' → (w'.cell? ⟨b, off + k * 6 + 2, none⟩ = some (.slice Ae x.e.length ce) ∧ w'.cell? ⟨b, off + k * 6 + 3, none⟩ = some (.slice Aa x.A.length ca) ∧ w'.cell? ⟨b, off + k * 6 + 4, none⟩ = some (.slice Ab x.B.length cb))) := Lib.hid fun w' hb => ⟨(hb.cell (p := ⟨b, _, none⟩) (HbB.out)).trans x2, (hb.cell (p := ⟨b, _, none⟩) (HbB.out)).trans x3, (hb.cell (p := ⟨b, _, none⟩) (HbB.out)).trans x4⟩
        clear hsv hte hta htb hu1 hu2 hu3 hat hE hA hB' hbw
        have B1 : Hid (Below wr.heap.size wr wr.drew) := Lib.hid (Below.refl _ _).drew
        have K0 := Lib.hid (HXs.out _ B1.out)
        go_wp2_with fail
        go_region_held3 (fun w' => w'.cell? ⟨b, off + k * 6 + 2, none⟩ = some (.slice Ae x.e.length ce) ∧ w'.cell? ⟨b, off + k * 6 + 3, none⟩ = some (.slice Aa x.A.length ca) ∧ w'.cell? ⟨b, off + k * 6 + 4, none⟩ = some (.slice Ab x.B.length cb))
          (first | (with_reducible exact K0.out) | (with_reducible exact K1.out) | (with_reducible exact K2.out) | (with_reducible exact K3.out))
          (first
          | (go_at_call 53; ((with_reducible refine (HCe.out _ B1.out).mono ?_); rintro e w1 ⟨rfl, hb⟩); have B2 := Lib.hid hb; have K1 := Lib.hid (HXs.out _ hb); clear hb)
          | (go_at_call 22; ((with_reducible refine (HCa.out _ B2.out).mono ?_); rintro e w2 ⟨rfl, hb⟩); have B3 := Lib.hid hb; have K2 := Lib.hid (HXs.out _ hb); clear hb)
          | (go_at_call 22; ((with_reducible refine (HCb.out _ B3.out).mono ?_); rintro e w3 ⟨rfl, hb⟩); have B4 := Lib.hid hb; have K3 := Lib.hid (HXs.out _ hb); clear hb))
        clear g1 g2 g3
        go_wp2_with fail
        go_roundw
        case rel => exact ⟨k + 1, by go_num, hlt, by rw [← HU3.out], HBw.out.trans (B4.out.mono hs)⟩
        case measure => simp [RowKit.intOf]; omega
      · have he : k = m := by omega
        subst he
        have HF : Hid (W64 (k + sumF inS (l.take k)) = W64 (szB l)) := Lib.hid (by rw [HSum.out, ← HM.out, List.take_length])
        go_wp2_with fail
        go_ret
        exact ⟨ret_int HF.out, hbw⟩
end
end Go.Proofs.YteaongdlbleehaaGreatDoor

/- The tree layer: rows that grow, whose elements lead to rows of their own. -/
namespace Go.Proofs.YteaongdlbleehaaGreatDoor
open Go.RowKit
section
variable {P : Program} {w : World}
theorem wp_append_at {o : Oper} {a : Act} {K : Act → World → Prop} {Q : Exit → Act → World → Prop} (s x : Operand) (t : TypeId)
    (ho : o.op = .call { callee := .builtin .append, args := #[s, x], argTypes := #[t, t] })
    (base : Nat) (e : TypeId) (i : TypeInfo) (z : Value) (size bytes : Nat) (ht : P.underlying t = some (.slice e)) (hi : P.info? e = some i) (hz : i.zero = some z)
    (hsize : i.size = size) (hby : i.bytes = bytes) (hzs : z.cells.size = size) (hsz : 0 < size)
    (v : Value) (n : Nat) (xs : List Value) (hs : a.eval s = v) (hown : w.ownsRow base e size v n xs)
    (ad : Addr) (m c : Nat) (news : List Value) (hx : a.eval x = .slice (some ad) m c) (hl : news.length = m * size) (hnews : ∀ j u, news[j]? = some u → w.cell? (ad.add j) = some u) (h1 : ∀ u ∈ news, u.oneCell' = true)
    (h63 : n + m ≤ maxLen) (hbytes : (n + m) * bytes ≤ 140737488355328) (hbase : base ≤ w.heap.size)
    (h : ∀ v' w', w'.ownsRow base e size v' (n + m) (xs ++ news) → w.grownBy w' v.ownBlock → (v'.ownBlock = v.ownBlock ∨ v'.ownBlock = some w.heap.size) → K (a.put o.dst v') w') : o.wp P a w K Q := by
  obtain ⟨v', w', hrun, h2, h3, _, h4⟩ := run_append_own_at (P := P) w base t o.type e i z size bytes ht hi hz hsize hby hzs hsz v n xs hown ad m c news hl hnews h1 h63 hbytes hbase
  unfold Oper.wp execOp
  simp only [ho, resolve, invoke, builtin, Sem.run_bind, Sem.run_pure, Result.andThen_ok, List.map_toArray, List.map_cons, List.map_nil, hs, hx, hrun]
  exact h v' w' h2 h3 h4
end
theorem wpList_append_at {P : Program} {w : World} {ops : Array Oper} {rest : List Oper} {o : Oper} {a : Act} {Q : Exit → Act → World → Prop} (hgd : o.guard = none) (s x : Operand) (t : TypeId)
    (ho : o.op = .call { callee := .builtin .append, args := #[s, x], argTypes := #[t, t] })
    (base : Nat) (e : TypeId) (i : TypeInfo) (z : Value) (size bytes : Nat) (ht : P.underlying t = some (.slice e)) (hi : P.info? e = some i) (hz : i.zero = some z)
    (hsize : i.size = size) (hby : i.bytes = bytes) (hzs : z.cells.size = size) (hsz : 0 < size)
    (v : Value) (n : Nat) (xs : List Value) (hs : a.eval s = v) (hown : w.ownsRow base e size v n xs)
    (ad : Addr) (m c : Nat) (news : List Value) (hx : a.eval x = .slice (some ad) m c) (hl : news.length = m * size) (hnews : ∀ j u, news[j]? = some u → w.cell? (ad.add j) = some u) (h1 : ∀ u ∈ news, u.oneCell' = true)
    (h63 : n + m ≤ maxLen) (hbytes : (n + m) * bytes ≤ 140737488355328) (hbase : base ≤ w.heap.size)
    (h : ∀ v' w', w'.ownsRow base e size v' (n + m) (xs ++ news) → w.grownBy w' v.ownBlock → (v'.ownBlock = v.ownBlock ∨ v'.ownBlock = some w.heap.size) → wpList P ops Q rest (a.put o.dst v') w') : wpList P ops Q (o :: rest) a w :=
  wpList_plain hgd fun _ hK => wp_append_at s x t ho base e i z size bytes ht hi hz hsize hby hzs hsz v n xs hs hown ad m c news hx hl hnews h1 h63 hbytes hbase fun v' w' h2 h3 h4 => hK _ _ (h v' w' h2 h3 h4)
section
variable {P P' : Nat → Prop} {n : Nat} {w w' : World} {v : Value}
theorem At5.kept {b o : Nat} {x : Ex} {L : Value} (h : At5 w b o x L) (hk : w'.heap[b]? = w.heap[b]?) : At5 w' b o x L := by
  have q : ∀ o, w'.cell? ⟨b, o, none⟩ = w.cell? ⟨b, o, none⟩ := fun o => World.cell?_of_block hk
  unfold At5
  rw [q, q, q, q, q]
  exact h
theorem At6.kept {b o : Nat} {x : St} {LE LA LB : Value} (h : At6 w b o x LE LA LB) (hk : w'.heap[b]? = w.heap[b]?) : At6 w' b o x LE LA LB := by
  have q : ∀ o, w'.cell? ⟨b, o, none⟩ = w.cell? ⟨b, o, none⟩ := fun o => World.cell?_of_block hk
  unfold At6
  rw [q, q, q, q, q, q]
  exact h
theorem ExR.kept {l : List Ex} (h : ExR P n w l v) (hk : ∀ b, P b → w'.heap[b]? = w.heap[b]?) : ExR P n w' l v := by
  induction n generalizing l v with
  | zero => exact h
  | succ n ih =>
    obtain ⟨A, cap, h1, h2, h3, h4⟩ := h
    refine ⟨A, cap, h1, h2, h3, fun i x hx => ?_⟩
    obtain ⟨b, off, L, e1, e2, e3, e4, e5, e6⟩ := h4 i x hx
    exact ⟨b, off, L, e1, e2, e3.kept (hk b e2), e4, e5, ih e6⟩
theorem StR.kept {l : List St} (h : StR P n w l v) (hk : ∀ b, P b → w'.heap[b]? = w.heap[b]?) : StR P n w' l v := by
  induction n generalizing l v with
  | zero => exact h
  | succ n ih =>
    obtain ⟨A, cap, h1, h2, h3, h4⟩ := h
    refine ⟨A, cap, h1, h2, h3, fun i x hx => ?_⟩
    obtain ⟨b, off, LE, LA, LB, e1, e2, e3, e4, e5, e6, e7⟩ := h4 i x hx
    exact ⟨b, off, LE, LA, LB, e1, e2, e3.kept (hk b e2), e4, e5.kept hk, ih e6, ih e7⟩
end
/-- What an element's cells must be, by the blocks that it may lead to. -/
structure Kind (α : Type) where
  good : (Nat → Prop) → World → α → List Value → Prop
  mono : ∀ {P P' : Nat → Prop} {w : World} {x : α} {cs : List Value}, (∀ b, P b → P' b) → good P w x cs → good P' w x cs
  kept : ∀ {P : Nat → Prop} {w w' : World} {x : α} {cs : List Value}, (∀ b, P b → w'.heap[b]? = w.heap[b]?) → good P w x cs → good P w' x cs
/-- A row of one's own that grows: its elements lead to blocks from base on, but not to the row's own. -/
def OwnL {α : Type} (κ : Kind α) (T : TypeId) (k base : Nat) (w : World) (v : Value) (l : List α) : Prop :=
  ∃ css : List (List Value), css.length = l.length ∧ w.ownsRow base T k v l.length css.flatten ∧
    ∀ (i : Nat) (x : α) (cs : List Value), l[i]? = some x → css[i]? = some cs → cs.length = k ∧ κ.good (fun b => base ≤ b ∧ b < w.heap.size ∧ v.ownBlock ≠ some b) w x cs
theorem flat_at {css : List (List Value)} {k : Nat} (hk : ∀ (i : Nat) (cs : List Value), css[i]? = some cs → cs.length = k) {i j : Nat} {cs : List Value} (h : css[i]? = some cs) (hj : j < k) : css.flatten[i * k + j]? = cs[j]? := by
  induction css generalizing i with
  | nil => simp at h
  | cons c r ih =>
    have hc : c.length = k := hk 0 c rfl
    rw [List.flatten_cons]
    cases i with
    | zero =>
      simp at h
      subst h
      rw [Nat.zero_mul, Nat.zero_add, List.getElem?_append_left (by omega)]
    | succ i =>
      rw [List.getElem?_append_right (by rw [hc, Nat.succ_mul]; omega), hc, show (i + 1) * k + j - k = i * k + j by rw [Nat.succ_mul]; omega]
      exact ih (fun i cs hcs => hk (i + 1) cs (by simpa using hcs)) (by simpa using h)
section
variable {α : Type} {κ : Kind α} {T : TypeId} {k base : Nat} {w w' : World} {v v' : Value} {l : List α}
theorem OwnL.nil (w : World) (base : Nat) : OwnL κ T k base w (.slice none 0 0) [] := ⟨[], rfl, World.ownsRow_nil w base T k, fun i x cs h => by simp at h⟩
theorem OwnL.below (h : OwnL κ T k base w v l) (hb : Below w.heap.size w w') : OwnL κ T k base w' v l := by
  obtain ⟨css, h1, h2, h3⟩ := h
  refine ⟨css, h1, ⟨h2.1, ?_⟩, fun i x cs hx hc => ⟨(h3 i x cs hx hc).1, ?_⟩⟩
  · rcases h2.2 with q | ⟨g, cap, cur, e1, e2, e3, r⟩
    · exact .inl q
    · exact .inr ⟨g, cap, cur, e1, e2, (hb.block g (Array.getElem?_eq_some_iff.1 e3).1).trans e3, r⟩
  · exact κ.mono (fun b q => ⟨q.1, Nat.lt_of_lt_of_le q.2.1 hb.size, q.2.2⟩) (κ.kept (fun b q => hb.block b q.2.1) (h3 i x cs hx hc).2)
theorem OwnL.low {base' : Nat} (h : OwnL κ T k base w v l) (hb : base' ≤ base) : OwnL κ T k base' w v l := by
  obtain ⟨css, h1, h2, h3⟩ := h
  refine ⟨css, h1, ⟨h2.1, ?_⟩, fun i x cs hx hc => ⟨(h3 i x cs hx hc).1, κ.mono (fun b q => ⟨Nat.le_trans hb q.1, q.2⟩) (h3 i x cs hx hc).2⟩⟩
  rcases h2.2 with q | ⟨g, cap, cur, e1, e2, r⟩
  · exact .inl q
  · exact .inr ⟨g, cap, cur, e1, Nat.le_trans hb e2, r⟩
theorem OwnL.lt (h : OwnL κ T k base w v l) : ∀ g, v.ownBlock = some g → base ≤ g ∧ g < w.heap.size := by
  obtain ⟨css, h1, h2, h3⟩ := h
  exact h2.lt
/-- Behind an append of one. -/
theorem OwnL.more {x : α} {cs : List Value} {css : List (List Value)} (h1 : css.length = l.length)
    (h3 : ∀ (i : Nat) (x : α) (cs : List Value), l[i]? = some x → css[i]? = some cs → cs.length = k ∧ κ.good (fun b => base ≤ b ∧ b < w.heap.size ∧ v.ownBlock ≠ some b) w x cs)
    (ho : w'.ownsRow base T k v' (l.length + 1) (css.flatten ++ cs)) (hg : w.grownBy w' v.ownBlock) (hv : v'.ownBlock = v.ownBlock ∨ v'.ownBlock = some w.heap.size)
    (hc : cs.length = k) (hx : κ.good (fun b => base ≤ b ∧ b < w.heap.size ∧ v.ownBlock ≠ some b) w x cs) : OwnL κ T k base w' v' (l ++ [x]) := by
  have up : ∀ {y : α} {ds : List Value}, κ.good (fun b => base ≤ b ∧ b < w.heap.size ∧ v.ownBlock ≠ some b) w y ds → κ.good (fun b => base ≤ b ∧ b < w'.heap.size ∧ v'.ownBlock ≠ some b) w' y ds := fun hy =>
    κ.mono (fun b q => ⟨q.1, Nat.lt_of_lt_of_le q.2.1 hg.size, by
      rcases hv with e | e
      · rw [e]; exact q.2.2
      · rw [e]; intro e2; injection e2 with e2; omega⟩) (κ.kept (fun b q => hg.block b q.2.1 (fun e => q.2.2 e.symm)) hy)
  refine ⟨css ++ [cs], by simp [h1], by simpa using ho, fun i y ds hy hd => ?_⟩
  rcases Nat.lt_or_ge i l.length with hi | hi
  · rw [List.getElem?_append_left hi] at hy
    rw [List.getElem?_append_left (by omega)] at hd
    exact ⟨(h3 i y ds hy hd).1, up (h3 i y ds hy hd).2⟩
  · rw [List.getElem?_append_right hi] at hy
    rw [List.getElem?_append_right (by omega)] at hd
    cases q : i - l.length with
    | zero =>
      rw [q] at hy
      rw [h1, q] at hd
      simp at hy hd
      subst hy hd
      exact ⟨hc, up hx⟩
    | succ r => rw [q] at hy; simp at hy
/-- What is known of such a row. -/
theorem OwnL.row (h : OwnL κ T k base w v l) : ∃ A cap, v = .slice A l.length cap ∧ l.length ≤ cap ∧
    ∀ (i : Nat) (x : α), l[i]? = some x → ∃ b cs, A = some ⟨b, 0, none⟩ ∧ (base ≤ b ∧ b < w.heap.size) ∧ cs.length = k ∧ (∀ j, j < k → w.cell? ⟨b, i * k + j, none⟩ = cs[j]?) ∧ κ.good (fun b => base ≤ b ∧ b < w.heap.size) w x cs := by
  obtain ⟨css, h1, h2, h3⟩ := h
  have h2' := h2
  rcases h2.2 with ⟨rfl, h0⟩ | ⟨g, cap, cur, rfl, hbg, hg, hc, hm, hcs, htk⟩
  · refine ⟨none, 0, by rw [h0], by omega, fun i x hx => ?_⟩
    have := (List.getElem?_eq_some_iff.1 hx).1
    omega
  · refine ⟨some ⟨g, 0, none⟩, cap, rfl, hc, fun i x hx => ?_⟩
    have hi := (List.getElem?_eq_some_iff.1 hx).1
    obtain ⟨cs, hcs⟩ : ∃ cs, css[i]? = some cs := ⟨_, List.getElem?_eq_getElem (by omega)⟩
    have hk : ∀ (i : Nat) (cs : List Value), css[i]? = some cs → cs.length = k := fun i cs hq => by
      have hi := (List.getElem?_eq_some_iff.1 hq).1
      exact (h3 i _ cs (List.getElem?_eq_getElem (by omega)) hq).1
    refine ⟨g, cs, rfl, ⟨hbg, (Array.getElem?_eq_some_iff.1 hg).1⟩, hk i cs hcs, fun j hj => ?_, κ.mono (fun b q => ⟨q.1, q.2.1⟩) (h3 i x cs hx hcs).2⟩
    rw [h2'.cellAt (i * k + j) (by
      have : (i + 1) * k ≤ l.length * k := Nat.mul_le_mul_right k hi
      rw [Nat.succ_mul] at this
      omega)]
    exact flat_at hk hcs hj
end
/-- Expressions, so deep. -/
def kEx (n : Nat) : Kind Ex where
  good P w x cs := ∃ L, cs = [.string x.op, .string x.nm, .int .i64 x.n, L, .int .i64 x.a] ∧ In64 x.n ∧ In64 x.a ∧ ExR P n w x.l L
  mono h := fun ⟨L, h1, h2, h3, h4⟩ => ⟨L, h1, h2, h3, h4.wide h⟩
  kept h := fun ⟨L, h1, h2, h3, h4⟩ => ⟨L, h1, h2, h3, h4.kept h⟩
def kSt (n : Nat) : Kind St where
  good P w x cs := ∃ LE LA LB, cs = [.string x.op, .string x.nm, LE, LA, LB, .int .i64 x.a] ∧ In64 x.a ∧ ExR P n w x.e LE ∧ StR P n w x.A LA ∧ StR P n w x.B LB
  mono h := fun ⟨LE, LA, LB, h1, h2, h3, h4, h5⟩ => ⟨LE, LA, LB, h1, h2, h3.wide h, h4.wide h, h5.wide h⟩
  kept h := fun ⟨LE, LA, LB, h1, h2, h3, h4, h5⟩ => ⟨LE, LA, LB, h1, h2, h3.kept h, h4.kept h, h5.kept h⟩
theorem own_ex {n base : Nat} {T : TypeId} {w : World} {v : Value} {l : List Ex} (h : OwnL (kEx n) T 5 base w v l) (hl : l.length * 72 ≤ 140737488355328) : ExR (fun b => base ≤ b ∧ b < w.heap.size) (n + 1) w l v := by
  obtain ⟨A, cap, h1, h2, h3⟩ := h.row
  refine ⟨A, cap, h1, h2, hl, fun i x hx => ?_⟩
  obtain ⟨b, cs, e1, e2, e3, e4, L, rfl, e5, e6, e7⟩ := h3 i x hx
  exact ⟨b, 0, L, e1, e2, by rw [Nat.zero_add]; exact ⟨e4 0 (by omega), e4 1 (by omega), e4 2 (by omega), e4 3 (by omega), e4 4 (by omega)⟩, e5, e6, e7⟩
theorem own_st {n base : Nat} {T : TypeId} {w : World} {v : Value} {l : List St} (h : OwnL (kSt n) T 6 base w v l) (hl : l.length * 112 ≤ 140737488355328) : StR (fun b => base ≤ b ∧ b < w.heap.size) (n + 1) w l v := by
  obtain ⟨A, cap, h1, h2, h3⟩ := h.row
  refine ⟨A, cap, h1, h2, hl, fun i x hx => ?_⟩
  obtain ⟨b, cs, e1, e2, e3, e4, LE, LA, LB, rfl, e5, e6, e7, e8⟩ := h3 i x hx
  exact ⟨b, 0, LE, LA, LB, e1, e2, by rw [Nat.zero_add]; exact ⟨e4 0 (by omega), e4 1 (by omega), e4 2 (by omega), e4 3 (by omega), e4 4 (by omega), e4 5 (by omega)⟩, e5, e6, e7, e8⟩
section
variable {w w' : World} {v : Value}
theorem OwnL.kept_ {α : Type} {κ : Kind α} {T : TypeId} {k base : Nat} {l : List α} (h : OwnL κ T k base w v l) (hk : ∀ b, base ≤ b → w'.heap[b]? = w.heap[b]?) (hs : w.heap.size ≤ w'.heap.size) : OwnL κ T k base w' v l := by
  obtain ⟨css, h1, h2, h3⟩ := h
  refine ⟨css, h1, ⟨h2.1, ?_⟩, fun i x cs hx hc => ⟨(h3 i x cs hx hc).1, κ.mono (fun b q => ⟨q.1, Nat.lt_of_lt_of_le q.2.1 hs, q.2.2⟩) (κ.kept (fun b q => hk b q.1) (h3 i x cs hx hc).2)⟩⟩
  rcases h2.2 with q | ⟨g, cap, cur, e1, e2, e3, r⟩
  · exact .inl q
  · exact .inr ⟨g, cap, cur, e1, e2, (hk g e2).trans e3, r⟩
theorem OwnL.set_ {α : Type} {κ : Kind α} {T : TypeId} {k base : Nat} {l : List α} (h : OwnL κ T k base w v l) (p : Addr) (u : Value) (hp : p.block < base) : OwnL κ T k base (w.setCell p u) v l :=
  h.kept_ (fun b hb => Below.heap_setCell _ _ _ _ (Nat.ne_of_gt (Nat.lt_of_lt_of_le hp hb))) (by simp [World.setCell])
end
end Go.Proofs.YteaongdlbleehaaGreatDoor
