/- Put together of: TextMath, BText, TextB, ZText. -/
import Derived.Lib.ItoaNum
import Derived.Lib.ItoaLen
import Derived.Lib.Join
import Derived.Test.YtlkbapcienjdcaaDoorGSettle
import Derived.Test.YtlkbapcienjdcaaDoorGFound
import Derived.Test.YtlkbapcienjdcaaDoorShelf
import Derived.Test.YtlkbapcienjdcaaDoorGClose
import Derived.Lib.SmallJoins
import Derived.Lib.AppendIntMem
import Derived.Test.YtlkbapcienjdcaaDoorGSmall
import Derived.Test.YtlkbapcienjdcaaDoorGWide
import Derived.Test.YtlkbapcienjdcaaDoorGSets
/- The signs of a zone: what they are, and that two right zones with the same signs are the same. Nothing of the program stands here. -/
namespace Go.Proofs.YtlkbapcienjdcaaDoor

theorem tdigit_of {k : Nat} (h : k < 10) : (UInt8.ofNat (48 + k)).toNat = 48 + k := by
  rw [UInt8.toNat_ofNat']; omega
theorem tdec_dig (u : Nat) : ∀ c ∈ Lib.decDigits u, 48 ≤ c.toNat ∧ c.toNat ≤ 57 := by
  induction u using Nat.strongRecOn with
  | ind u ih =>
    intro c hc
    rw [Lib.decDigits] at hc
    by_cases h : u < 10
    · rw [dif_pos h] at hc
      simp only [List.mem_singleton] at hc
      subst hc
      rw [tdigit_of h]; omega
    · rw [dif_neg h] at hc
      rcases List.mem_append.1 hc with hc | hc
      · exact ih (u / 10) (by omega) c hc
      · simp only [List.mem_singleton] at hc
        subst hc
        rw [tdigit_of (by omega)]; omega
theorem tdec_ne (u : Nat) : Lib.decDigits u ≠ [] := by
  rw [Lib.decDigits]
  split <;> simp
theorem tdec_more {u : Nat} (h : ¬ u < 10) : Lib.decDigits u = Lib.decDigits (u / 10) ++ [UInt8.ofNat (48 + u % 10)] := by
  rw [Lib.decDigits, dif_neg h]
theorem tdec_inj : ∀ (u v : Nat), Lib.decDigits u = Lib.decDigits v → u = v := by
  intro u
  induction u using Nat.strongRecOn with
  | ind u ih =>
    intro v h
    by_cases hu : u < 10
    · rw [Lib.decDigits_one hu] at h
      by_cases hv : v < 10
      · rw [Lib.decDigits_one hv] at h
        simp only [List.cons.injEq, and_true] at h
        have := congrArg UInt8.toNat h
        rw [tdigit_of hu, tdigit_of hv] at this
        omega
      · rw [tdec_more hv] at h
        have := congrArg List.length h
        simp at this
        exact absurd this (tdec_ne _)
    · rw [tdec_more hu] at h
      by_cases hv : v < 10
      · rw [Lib.decDigits_one hv] at h
        have := congrArg List.length h
        simp at this
        exact absurd this (tdec_ne _)
      · rw [tdec_more hv] at h
        have := List.append_inj' h rfl
        have a := ih (u / 10) (by omega) _ this.1
        have b := this.2
        simp only [List.cons.injEq, and_true] at b
        have := congrArg UInt8.toNat b
        rw [tdigit_of (by omega), tdigit_of (by omega)] at this
        omega
theorem titoa_sign (n : Int) : ∀ c ∈ Lib.itoa n, 45 ≤ c.toNat ∧ c.toNat ≤ 57 := by
  intro c hc
  unfold Lib.itoa at hc
  split at hc
  · rcases List.mem_cons.1 hc with rfl | hc
    · decide
    · have := tdec_dig _ c hc; omega
  · have := tdec_dig _ c hc; omega
theorem titoa_ne (n : Int) : Lib.itoa n ≠ [] := by
  unfold Lib.itoa
  split
  · simp
  · exact tdec_ne _
theorem titoa_inj {a b : Int} (h : Lib.itoa a = Lib.itoa b) : a = b := by
  have key : ∀ (u v : Nat), (45 : UInt8) :: Lib.decDigits u = Lib.decDigits v → False := fun u v q => by
    have := tdec_dig v 45 (by rw [← q]; exact List.mem_cons_self)
    revert this
    decide
  unfold Lib.itoa at h
  split at h <;> split at h
  · have := tdec_inj _ _ (List.cons.inj h).2
    omega
  · exact (key _ _ h).elim
  · exact (key _ _ h.symm).elim
  · have := tdec_inj _ _ h
    omega
theorem titoa_blank (n : Int) : (32 : UInt8) ∉ Lib.itoa n := fun h => by
  have := titoa_sign n 32 h
  revert this
  decide
/-- What begins with a blank, or is nothing. -/
def Bl (s : List UInt8) : Prop := s = [] ∨ ∃ r, s = 32 :: r
theorem split_bl : ∀ {x y s t : List UInt8}, (32 : UInt8) ∉ x → (32 : UInt8) ∉ y → Bl s → Bl t → x ++ s = y ++ t → x = y ∧ s = t
  | [], [], _, _, _, _, _, _, h => ⟨rfl, h⟩
  | [], c :: y, s, t, _, hy, hs, _, h => by
    exfalso
    rcases hs with rfl | ⟨r, rfl⟩
    · cases h
    · simp only [List.nil_append, List.cons_append, List.cons.injEq] at h
      exact hy (by rw [← h.1]; exact List.mem_cons_self)
  | c :: x, [], s, t, hx, _, _, ht, h => by
    exfalso
    rcases ht with rfl | ⟨r, rfl⟩
    · cases h
    · simp only [List.nil_append, List.cons_append, List.cons.injEq] at h
      exact hx (by rw [h.1]; exact List.mem_cons_self)
  | c :: x, d :: y, s, t, hx, hy, hs, ht, h => by
    simp only [List.cons_append, List.cons.injEq] at h
    obtain ⟨e1, e2⟩ := split_bl (fun q => hx (List.mem_cons_of_mem _ q)) (fun q => hy (List.mem_cons_of_mem _ q)) hs ht h.2
    exact ⟨by rw [h.1, e1], e2⟩
theorem tail_bl (r : List (List UInt8)) : Bl (Lib.joinTail [32] r) := by
  cases r with
  | nil => exact .inl rfl
  | cons a r => exact .inr ⟨_, rfl⟩
theorem tail_inj : ∀ (xs ys : List Int), xs.length = ys.length → Lib.joinTail [32] (xs.map Lib.itoa) = Lib.joinTail [32] (ys.map Lib.itoa) → xs = ys
  | [], [], _, _ => rfl
  | [], _ :: _, h, _ => by simp at h
  | _ :: _, [], h, _ => by simp at h
  | a :: xs, b :: ys, hl, h => by
    have h' : Lib.itoa a ++ Lib.joinTail [32] (xs.map Lib.itoa) = Lib.itoa b ++ Lib.joinTail [32] (ys.map Lib.itoa) := (List.cons.inj (show (32 : UInt8) :: (Lib.itoa a ++ Lib.joinTail [32] (xs.map Lib.itoa)) = 32 :: (Lib.itoa b ++ Lib.joinTail [32] (ys.map Lib.itoa)) from h)).2
    obtain ⟨e1, e2⟩ := split_bl (titoa_blank a) (titoa_blank b) (tail_bl _) (tail_bl _) h'
    rw [titoa_inj e1, tail_inj xs ys (by simpa using hl) e2]
theorem join_inj : ∀ {xs ys : List Int}, xs.length = ys.length → Lib.join (xs.map Lib.itoa) [32] = Lib.join (ys.map Lib.itoa) [32] → xs = ys
  | [], [], _, _ => rfl
  | [], _ :: _, h, _ => by simp at h
  | _ :: _, [], h, _ => by simp at h
  | a :: xs, b :: ys, hl, h => by
    rw [List.map_cons, List.map_cons, Lib.join_cons, Lib.join_cons] at h
    obtain ⟨e1, e2⟩ := split_bl (titoa_blank a) (titoa_blank b) (tail_bl _) (tail_bl _) h
    rw [titoa_inj e1, tail_inj xs ys (by simpa using hl) e2]
/-- A zone's signs. -/
def textZ (m : Nat) : Option Mat → List UInt8
  | none => [98, 111, 116, 116, 111, 109]
  | some C => Lib.join ((flatL m C).map Lib.itoa) [32]
theorem flat_pos {m : Nat} (h0 : 0 < m) (C : Mat) : ∃ a r, flatL m C = a :: r := by
  have := flat_len m C
  have : 0 < m * m := Nat.mul_pos h0 h0
  match h : flatL m C with
  | [] => have := congrArg List.length h; simp only [List.length_nil] at this; omega
  | a :: r => exact ⟨a, r, rfl⟩
theorem text_not {m : Nat} (h0 : 0 < m) (C : Mat) : textZ m (some C) ≠ textZ m none := by
  obtain ⟨a, r, h⟩ := flat_pos h0 C
  show Lib.join ((flatL m C).map Lib.itoa) [32] ≠ _
  rw [h, List.map_cons, Lib.join_cons]
  intro q
  have hs := titoa_sign a
  have hn := titoa_ne a
  match hi : Lib.itoa a with
  | [] => exact hn hi
  | c :: l =>
    rw [hi] at q hs
    have e := (List.cons.inj (show c :: (l ++ _) = 98 :: _ from q)).1
    have := hs c List.mem_cons_self
    rw [e] at this
    revert this
    decide
theorem flat_same {m : Nat} {C D : Mat} (h : flatL m C = flatL m D) : Same m C D := fun i j hi hj => by
  have hl := spot_lt hi hj
  have e1 := flat_at C hi hj
  have e2 := flat_at D hi hj
  rw [h, e2] at e1
  exact (Option.some.inj e1).symm
theorem text_inj {m : Nat} (h0 : 0 < m) {R S : Option Mat} (h : textZ m R = textZ m S) : R.map (flatL m) = S.map (flatL m) := by
  match R, S with
  | none, none => rfl
  | none, some D => exact absurd h.symm (text_not h0 D)
  | some C, none => exact absurd h (text_not h0 C)
  | some C, some D =>
    have := join_inj (by rw [flat_len, flat_len]) h
    simp [this]
end Go.Proofs.YtlkbapcienjdcaaDoor

/- The contract of bound's Text, of a bound of a right zone; the lengths of what is written. -/
namespace Go.Proofs.YtlkbapcienjdcaaDoor
open Go.RowKit
attribute [local go_sem ↓] Go.wp_at_zero Go.wp_at_succ

/-- What the library's table holds. -/
def Tabs (w : World) : Prop := Lib.TabIs Tryd.prog w "internal/strconv.uint64pow10" .u64 Lib.pow10Tab
theorem gPow : Tryd.prog.globalNamed "internal/strconv.uint64pow10" = some 1 := by kernel_rfl
theorem Tabs.stays {w w' : World} (h : Tabs w) (hb : Below w.heap.size w w') : Tabs w' := Joins.tab_stays gPow h hb (Nat.le_refl _)
/-- A number's numeral. -/
abbrev itB (n : Int) : ByteArray := ⟨(Lib.itoa n).toArray⟩
def RetTx (l : List UInt8) (w : World) (e : Ending) (w' : World) : Prop := e = .returned (.string ⟨l.toArray⟩) ∧ Below w.heap.size w w'
theorem near_in {b : Int} (h : -2305843009213693952 ≤ b ∧ b ≤ 2305843009213693952) : nearZ b = b := by
  rcases nearZ_cases b with q | q | q <;> omega
set_option maxRecDepth 100000 in
set_option maxHeartbeats 800000 in
theorem btext_in (b : Int) (w : World) (ht : Tabs w) (h : -2305843009213693952 ≤ b ∧ b ≤ 2305843009213693952) : Calls Tryd.prog 52 #[.int .i64 b] w (RetTx (Lib.itoa b) w) := by
  have hN : ∀ W, Calls Tryd.prog 58 #[.int .i64 b] W fun e w' => e = .returned (.int .i64 b) ∧ W = w' := fun W => by
    have q := near_any b W
    rw [near_in h] at q
    exact q
  have HN := Lib.hid hN
  have h' : (b == 4611686018427387904) = false := by simp; omega
  have h2 : decide (b = 4611686018427387904) = false := decide_eq_false (by omega)
  have hI := Tryd.strconv_Itoa b (by omega) (by omega) w ht
  have H := Lib.hid hI
  clear h ht hI hN
  go_enter Tryd.func52, Tryd.ntmps52
  go_wp2_with (first | (go_at_call 58; ((with_reducible refine (HN.out _).mono ?_); rintro e w' ⟨rfl, rfl⟩)) | (go_at_call 70; refine H.out.mono ?_; rintro e w' ⟨rfl, k, os, rfl⟩))
  go_ret
  exact ⟨rfl, Lib.below_grow _ _ (Nat.le_refl _) _ _⟩
theorem titoa_len (n : Int) (h : -2305843009213693952 ≤ n ∧ n ≤ 2305843009213693952) : (Lib.itoa n).length ≤ 21 := by
  unfold Lib.itoa
  by_cases h : n < 0
  · rw [if_pos h, List.length_cons, Lib.decDigits_length]
    have := Lib.nDigits_le20 n.natAbs (by omega)
    omega
  · rw [if_neg h, Lib.decDigits_length]
    have := Lib.nDigits_le20 n.toNat (by omega)
    omega
theorem lens_le : ∀ (l : List Int), (∀ x ∈ l, -2305843009213693952 ≤ x ∧ x ≤ 2305843009213693952) → Lib.lens (l.map Lib.itoa) ≤ l.length * 21
  | [], _ => Nat.zero_le _
  | x :: r, h => by
    have a := titoa_len x (h x List.mem_cons_self)
    have b := lens_le r fun y hy => h y (List.mem_cons_of_mem _ hy)
    simp only [Lib.lens, List.map_cons, List.sum_cons, List.length_cons] at b ⊢
    omega
theorem flat_bd {m : Nat} {C : Mat} (hC : Closed m C) : ∀ x ∈ flatL m C, -2305843009213693952 ≤ x ∧ x ≤ 2305843009213693952 := fun x hx => by
  unfold flatL at hx
  obtain ⟨t, ht, rfl⟩ := List.mem_map.1 hx
  have ht := List.mem_range.1 ht
  have h0 : 0 < m := by
    rcases Nat.eq_zero_or_pos m with e | e
    · subst e; omega
    · exact e
  exact hC.bd (Nat.div_lt_of_lt_mul ht) (Nat.mod_lt _ h0)
theorem textZ_len {m : Nat} (h0 : 0 < m) (h7 : m ≤ 7) {R : Option Mat} (hR : ∀ C, R = some C → Closed m C) : (textZ m R).length ≤ 2000 := by
  match R, hR with
  | none, _ => show 6 ≤ 2000; omega
  | some C, hR =>
    have hC := hR C rfl
    obtain ⟨a, r, h⟩ := flat_pos h0 C
    have hl := flat_len m C
    have hm : m * m ≤ 49 := Nat.mul_le_mul h7 h7
    have hb := lens_le _ (flat_bd hC)
    show (Lib.join ((flatL m C).map Lib.itoa) [32]).length ≤ _
    rw [h, List.map_cons, Lib.join_length]
    rw [h, List.map_cons] at hb
    rw [h] at hl
    simp only [List.length_cons, List.length_map, List.length_nil] at *
    omega
end Go.Proofs.YtlkbapcienjdcaaDoor

/- Text of a zone: what stands while its bounds are written. -/
namespace Go.Proofs.YtlkbapcienjdcaaDoor
open Go.RowKit
attribute [local go_sem ↓] Go.wp_at_zero Go.wp_at_succ

theorem stinfo : (Tryd.prog.info? 9).map (fun i => (i.zero, i.size, i.bytes)) = some (some (.string ⟨#[]⟩), 1, 16) := by kernel_rfl
theorem slice_own' {W : World} {base size n : Nat} {e : TypeId} {v : Value} {xs : List Value} (h : W.ownsRow base e size v n xs) (hn : 0 < n) : ∃ g c, v = .slice (some ⟨g, 0, none⟩) n c := by
  rcases h.2 with ⟨q1, q2⟩ | ⟨gq, cq, cur, q1, _⟩
  · omega
  · exact ⟨gq, cq, q1⟩
/-- The strings of some bounds. -/
def strs {m : Nat} (C : Mat) (pre : List (Cell m)) : List Value := pre.map fun x => .string (itB (C x.1.1 x.1.2))
theorem strs_snoc {m : Nat} (C : Mat) (pre : List (Cell m)) (x : Cell m) : strs C (pre ++ [x]) = strs C pre ++ [.string (itB (C x.1.1 x.1.2))] := by simp [strs]
theorem strs_all {m : Nat} (h : 0 < m) (C : Mat) : strs C (spots h (m * m)) = (flatL m C).map fun x => Value.string (itB x) := by
  unfold strs flatL spots
  rw [List.map_map, List.map_map]
  refine List.map_congr_left fun t ht => ?_
  have ht : t < m * m := by simpa using ht
  show Value.string (itB (C (t / m % m) (t % m))) = .string (itB (C (t / m) (t % m)))
  rw [Nat.mod_eq_of_lt (Nat.div_lt_of_lt_mul ht)]
/-- While the bounds are written: the zone's box and row, the strings' box and row. -/
structure TX (w : World) (m g c BB bt B1 : Nat) (C : Mat) (v : Value) (k : Nat) (xs : List Value) (W : World) : Prop where
  low : Below w.heap.size w W
  zb : Duo W w.heap.size 39 (.int .i64 ((m : Int) - 1)) (.slice (some ⟨g, 0, none⟩) (m * m) c)
  zrow : W.ownsRow BB 3 1 (.slice (some ⟨g, 0, none⟩) (m * m) c) (m * m) ((flatL m C).map (Value.int .i64))
  tb : Boxed W bt 75 v
  row : W.ownsRow B1 9 1 v k xs
  apart : w.heap.size < bt ∧ bt < B1 ∧ g < B1 ∧ g ≠ bt
section
variable {w W W1 : World} {m g c BB bt B1 k : Nat} {C : Mat} {v v1 : Value} {xs : List Value}
theorem TX.below (h : TX w m g c BB bt B1 C v k xs W) (hb : Below W.heap.size W W1) : TX w m g c BB bt B1 C v k xs W1 := ⟨h.low.trans (hb.mono h.low.size), h.zb.below hb, own_kept_below h.zrow hb, boxed_below h.tb hb, own_kept_below h.row hb, h.apart⟩
theorem TX.s (h : TX w m g c BB bt B1 C v k xs W) : W.cell? ⟨w.heap.size, 0, none⟩ = some (.int .i64 ((m : Int) - 1)) ∧ W.cell? ⟨w.heap.size, 1, none⟩ = some (.slice (some ⟨g, 0, none⟩) (m * m) c) := ⟨h.zb.cell0, h.zb.cell1⟩
theorem TX.add {o : Obj} {y : Value} (h : TX w m g c BB bt B1 C v k xs W) (ho : W1.ownsRow B1 9 1 v1 (k + 1) (xs ++ [y])) (hg : (W.alloc o).grownBy W1 v.ownBlock) :
    TX w m g c BB bt B1 C v1 (k + 1) (xs ++ [y]) (W1.setCell ⟨bt, 0, none⟩ v1) ∧ (W1.cell? ⟨bt, 0, none⟩ = some v ∧ W1.frozen? ⟨bt, 0, none⟩ = false ∧ bt < W1.heap.size) ∧ (W1.cell? ⟨w.heap.size, 0, none⟩ = some (.int .i64 ((m : Int) - 1)) ∧ W1.cell? ⟨w.heap.size, 1, none⟩ = some (.slice (some ⟨g, 0, none⟩) (m * m) c)) ∧ (∀ B, KeepsFrom B W (W1.setCell ⟨bt, 0, none⟩ v1)) ∧ ∀ b, b < W.heap.size → b < B1 → b ≠ bt → (W1.setCell ⟨bt, 0, none⟩ v1).cell? ⟨b, 0, none⟩ = W.cell? ⟨b, 0, none⟩ := by
  obtain ⟨a1, a2, a3, a4⟩ := h.apart
  have h1 := h.below (zboxed W o)
  have hr := h1.row.lt
  have hl : Below w.heap.size w W1 := h1.low.grown hg h1.low.size (fun q e => by have := (hr q e).1; omega)
  have z := h1.zb.kept hg (fun e => by have := (hr _ e.symm).1; omega)
  have t := h1.tb.kept hg (fun e => by have := (hr _ e.symm).1; omega)
  have zr := h1.zrow.kept hg (.inr fun e => by have := (hr g (by simpa [Value.ownBlock] using e.symm)).1; omega)
  have hk : ∀ B, KeepsFrom B W W1 := fun B => ((KeepsOthers.alloc W o).from B).trans (keeps_own h1.row hg B)
  refine ⟨⟨hl.setCell (p := ⟨bt, 0, none⟩) (by simp; omega) _, z.other (by simp; omega) _, zr.kept (duo_grown_setCell _ _ _) (.inr (by simp [Value.ownBlock]; exact a4)), t.set _, ho.kept (duo_grown_setCell _ _ _) (.inr fun e => ?_), h.apart⟩, ⟨t.cell, t.frozen, t.lt⟩, ⟨z.cell0, z.cell1⟩, fun B => (hk B).trans (keeps_setCell _ _ _ _), fun b hb hb1 hne => ?_⟩
  · have := (ho.lt bt e).1
    omega
  · rw [World.cell?_setCell_far _ _ _ _ (by simpa using fun e => hne e.symm)]
    have e2 : W1.heap[b]? = (W.alloc o).heap[b]? := hg.block b (by simp; omega) (fun e => by have := (hr b e.symm).1; omega)
    have e3 : (W.alloc o).heap[b]? = W.heap[b]? := (World.grownBy_alloc W o none).block b hb (by simp)
    exact World.cell?_of_block (a := ⟨b, 0, none⟩) (e2.trans e3)
theorem tx_own {α : Type} {f : List α → List Value} (B : Nat) (hB : w.heap.size ≤ B) : OwnFrom B (fun (pre : List α) W => ∃ v, TX w m g c BB bt B1 C v pre.length (f pre) W) := by
  intro s X Y row ⟨v, h⟩ hg hr
  have hr' : ∀ r, row = some r → ∃ o : Obj, X.heap[r]? = some o ∧ o.isCells = false := fun r e => (hr r e).2
  exact ⟨v, h.low.grown hg h.low.size (fun r e => Nat.le_trans hB (hr r e).1), cells_own h.zb hg hr', row_own h.zrow hg hr', cells_own h.tb hg hr', row_own h.row hg hr', h.apart⟩
end
theorem text_leaves {w W : World} {B0 : Nat} {Ds : List Nat} {tmps : Array Value} {l : List UInt8} (hw : w.heap.size ≤ B0) (hcW : B0 ≤ W.heap.size) (hM : Marks B0 Ds W) (hG : Below w.heap.size w W)
    (ht : tmps.getD 2 undef = .string ⟨l.toArray⟩) : LeavesInM Fence.wide 3 Tryd.prog Tryd.f28 tmps (RetTx l w) (Ds.map mark) .returning W := by
  refine leaves_marks (B := B0) Ds W hcW hM (fun W' hb => ?_)
  simp at ht
  refine ⟨.string ⟨l.toArray⟩, ?_, rfl, hG.trans (hb.mono hw)⟩
  simp [results, Tryd.results28, go_sem, ht]
end Go.Proofs.YtlkbapcienjdcaaDoor

/- The contract of the program's Text: any zone. -/
namespace Go.Proofs.YtlkbapcienjdcaaDoor
open Go.RowKit Go.Shelf
attribute [local go_sem] Oper.semAt_some
attribute [local go_sem ↓] Go.wp_at_zero Go.wp_at_succ

theorem news_one1 (W : World) (x : Value) (t : TypeId) : ∀ (j : Nat) (u : Value), [x][j]? = some u → (W.alloc (.cells #[x] t)).cell? ((⟨W.heap.size, 0, none⟩ : Addr).add j) = some u := fun j u hu => by
  have hh := World.alloc_heap_new W (.cells #[x] t)
  generalize W.alloc (.cells #[x] t) = W1 at *
  match j, hu with
  | 0, hu => simp at hu; subst hu; simp [World.cell?, Addr.add, hh]
  | k + 1, hu => simp at hu
set_option maxRecDepth 100000 in
set_option maxHeartbeats 6400000 in
theorem text_pts {w : World} {N : Int} {Az : Option Addr} {lz cz m : Nat} {C : Mat} (h0 : 0 < m) (h7 : m ≤ 7) (hC : Closed m C) (ht : Tabs w)
    (K : ∀ W, Below w.heap.size w W → Calls Tryd.prog 32 #[zoneV N Az lz cz] W (RetC W m (some C))) :
    Calls Tryd.prog 28 #[zoneV N Az lz cz] w (RetTx (textZ m (some C)) w) := by
  have HT := Lib.hid (gz_new w (.int .i64 N) (.slice Az lz cz))
  have HB := Lib.hid HT.out.2
  have HK := Lib.hid K
  have HTab := Lib.hid ht
  have H0 := Lib.hid h0
  have HC := Lib.hid hC
  have e1 : rlen m (some C) = m * m := rfl
  have e2 := sq_pos h0
  have hmm : m * m ≤ 49 := Nat.mul_le_mul h7 h7
  have HMM := Lib.hid hmm
  obtain ⟨i0, hi, hz0, hz1, hz2⟩ := info_parts stinfo
  have HJn : Hid (∀ (bk c : Nat) (W : World), (∀ (j : Nat) (x : ByteArray), ((flatL m C).map itB)[j]? = some x → W.cell? ⟨bk, 0 + j, none⟩ = some (.string x)) → bk < W.heap.size → m * m ≤ c → Calls Tryd.prog 54 #[.slice (some ⟨bk, 0, none⟩) (m * m) c, .string ⟨#[32]⟩] W (RetTx (textZ m (some C)) W)) := Lib.hid fun bk c W h1 h2 h3 => by
    have hl : ((flatL m C).map itB).length = m * m := by rw [List.length_map, flat_len]
    have hd : ((flatL m C).map itB).map (·.data.toList) = (flatL m C).map Lib.itoa := by
      rw [List.map_map]
      refine List.map_congr_left fun x _ => ?_
      show (Lib.itoa x).toArray.toList = _
      simp
    have q := Tryd.strings_Join bk 0 c ((flatL m C).map itB) ⟨#[32]⟩ W h1 h2 (by omega) (by omega) (by
      rw [hd]
      have := textZ_len h0 h7 (R := some C) (fun D hD => by cases hD; exact hC)
      show (Lib.join ((flatL m C).map Lib.itoa) [32]).length ≤ _
      have e : (Lib.join ((flatL m C).map Lib.itoa) [32]).length ≤ 2000 := this
      omega)
    rw [hl, hd] at q
    exact q
  clear K ht hC hmm
  refine (callsIn_wide (n := 3)).1 ?_
  refine callsIn_of_wp_marks Tryd.func28 rfl trivial ?_ rfl
  simp only [Tryd.ntmps28, List.size_toArray, List.length_cons, List.length_nil, Nat.reduceAdd, Nat.reduceSub, Array.replicate_succ, Array.replicate_zero, List.push_toArray, List.append_toArray, List.nil_append, List.cons_append]
  refine wpIn_wide.2 ?_
  go_wp2_with (first
    | (go_at_call 32; ((with_reducible refine (HK.out _ HB.out).mono ?_); rintro e w1 ⟨A, c1, rfl, hz1', hb1⟩); have hF1 : Gz w w1 _ _ := Gz.below HT.out hb1; have y0 := hF1.1.cell0; have y1 := hF1.1.cell1; have y4 := hF1.1.frozen0; have y5 := hF1.1.frozen1)
    | (go_at_call 36; ((with_reducible refine (none_any _ _ _ _ _).mono ?_); rintro e w3 ⟨rfl, hb3⟩); have hF2 := (hF1.put (.int .i64 ((m : Int) - 1)) (.slice A (m * m) c1)).below hb3; have hZ2 := ((hz1'.setCell (a := ⟨w.heap.size, 0, none⟩) (by simp <;> omega) (.int .i64 ((m : Int) - 1))).setCell (a := ⟨w.heap.size, 1, none⟩) (by simp <;> omega) (.slice A (m * m) c1)).below hb3; have p0 := hF2.1.cell0; have p1 := hF2.1.cell1; have p2 := hF2.1.lt)
    | (go_at_call 51; ((with_reducible refine (cells_any _ _).mono ?_); rintro e w5 ⟨rfl, rfl⟩)))
  obtain ⟨g, rfl, -, o⟩ := zres_some hZ2
  have hg3 := (o.lt g rfl).2
  have hw3 := hF2.2.size
  have hI1 : TX w m g c1 (w.alloc (.cells #[.int .i64 N, .slice Az lz cz] 39)).heap.size w3.heap.size (w3.heap.size + 2) C (.slice none 0 0) 0 [] (w3.alloc (.cells #[.slice none 0 0] 75)) :=
    ⟨hF2.2.alloc hF2.2.size _, hF2.1.alloc _, own_kept_below o (zboxed _ _), Boxed.new w3 _ _, ⟨rfl, .inl ⟨rfl, rfl⟩⟩, by have := hF2.1.lt; omega, by omega, by omega, by omega⟩
  have hI0 := hI1.below (zboxed _ (.cells #[.int .i64 ((m : Int) - 1)] 3))
  obtain ⟨BB, hBB⟩ : ∃ BB, BB = (w.alloc (.cells #[.int .i64 N, .slice Az lz cz] 39)).heap.size := ⟨_, rfl⟩
  rw [← hBB] at hI0
  have HI0 : Hid (∃ v, TX w m g c1 BB w3.heap.size (w3.heap.size + 2) C v ([] : List (Cell m)).length (strs C ([] : List (Cell m))) ((w3.alloc (.cells #[.slice none 0 0] 75)).alloc (.cells #[.int .i64 ((m : Int) - 1)] 3))) := Lib.hid ⟨_, hI0⟩
  have hcb := Boxed.new (w3.alloc (.cells #[.slice none 0 0] 75)) 3 (.int .i64 ((m : Int) - 1))
  rw [World.size_alloc] at hcb
  clear y0 y1 y4 y5 p0 p1 p2 hF1 hF2 hZ2 hb1 hb3 hz1' o hI0 hI1 hBB
  refine (wpIn_wide (n := 3)).1 ?_
  refine wpIn_rangeFunc_ownG rfl (by omega) (gf := 69) (lb := #[.pointer (some ⟨w3.heap.size + 1, 0, none⟩)]) rfl trivial (enters_of Tryd.func69 (by kernel_rfl) rfl)
    (cells_stops Fence.wide 2 trivial rfl (by omega) (w3.heap.size + 1) m h7 h0 _ (by simp) hcb.cell) cellKept_t (cellKept_b (by simp)) (Below.refl _ _) (fun _ => rfl)
    (fun pre W => (∃ v, TX w m g c1 BB w3.heap.size (w3.heap.size + 2) C v pre.length (strs C pre) W) ∧ w3.heap.size + 1 < W.heap.size)
    (fun _ _ _ => False)
    (OwnFrom.and (tx_own _ (by simp; omega)) (fun _ _ _ _ h hg _ => Nat.lt_of_lt_of_le h hg.size)) (fun _ _ _ _ _ h _ _ => h) ⟨HI0.out, by simp⟩
    (fun x => { tmps := #[zoneV N Az lz cz, .pointer (some ⟨w.heap.size, 0, none⟩), .string ⟨#[]⟩, .pointer (some ⟨w3.heap.size, 0, none⟩), .int .i64 (x.1.1 : Int), .int .i64 (x.1.2 : Int), .agg #[.int .i64 N, .slice Az lz cz], zoneV ((m : Int) - 1) (some ⟨g, 0, none⟩) (m * m) c1, .agg #[.int .i64 ((m : Int) - 1), .slice (some ⟨g, 0, none⟩) (m * m) c1], .bool false, .pointer (some ⟨w.heap.size, 0, none⟩), .int .i64 ((m : Int) - 1), .func (.func 69) #[] #[.pointer (some ⟨w3.heap.size + 1, 0, none⟩)], .int .i64 (x.1.1 : Int), .int .i64 (x.1.2 : Int), undef, undef, undef, undef, undef, undef, undef, undef, undef, undef], defers := [] }) ?assign ?body ?done ?stop
  case assign =>
    intro l x W K hK
    gi_wp2
    exact hK
  case body =>
    rintro l pre ⟨⟨i, j⟩, hi2, hj2⟩ W ⟨⟨v, hT⟩, hcW⟩ hlen
    dsimp only at hi2 hj2 ⊢
    obtain ⟨B0, hB0⟩ : ∃ B0, B0 = ((w3.alloc (.cells #[.slice none 0 0] 75)).alloc (.cells #[.int .i64 ((m : Int) - 1)] 3)).heap.size := ⟨_, rfl⟩
    obtain ⟨B1, hB1⟩ : ∃ B1, B1 = w3.heap.size + 2 := ⟨_, rfl⟩
    rw [← hB1] at hT
    have HB1 : Hid (B1 ≤ W.heap.size) := Lib.hid (by omega)
    have T0 := Lib.hid (hT.below (Below.refl _ _).drew)
    have HA := Lib.hid (fun (W' : World) (h : TX w m g c1 BB w3.heap.size B1 C v pre.length (strs C pre) W') => at_own h7 hi2 hj2 h.zrow)
    have HT : Hid (∀ W', TX w m g c1 BB w3.heap.size B1 C v pre.length (strs C pre) W' → Calls Tryd.prog 52 #[.int .i64 (C i j)] W' (RetTx (Lib.itoa (C i j)) W')) := Lib.hid fun W' h => btext_in _ W' (HTab.out.stays h.low) (HC.out.bd hi2 hj2)
    have HM : Hid (pre.length + 1 ≤ maxLen ∧ (pre.length + 1) * 16 ≤ 140737488355328) := Lib.hid (by have := HMM.out; unfold maxLen; omega)
    have HX : Hid (B1 = w3.heap.size + 2 ∧ w3.heap.size + 1 < W.heap.size) := Lib.hid ⟨hB1, hcW⟩
    have HEnd : Hid (∀ w2 W' v1, Below W.heap.size W w2 → (TX w m g c1 BB w3.heap.size B1 C v1 (pre.length + 1) (strs C pre ++ [.string (itB (C i j))]) W') → (∀ B, KeepsFrom B w2 W') → (∀ b, b < w2.heap.size → b < B1 → b ≠ w3.heap.size → W'.cell? ⟨b, 0, none⟩ = w2.cell? ⟨b, 0, none⟩) →
        KeepsFrom B0 W W' ∧ CellKept (w3.heap.size + 1) W W' ∧ (∃ v, TX w m g c1 BB w3.heap.size (w3.heap.size + 2) C v (pre ++ [(⟨(i, j), hi2, hj2⟩ : Cell m)]).length (strs C (pre ++ [(⟨(i, j), hi2, hj2⟩ : Cell m)])) W') ∧ w3.heap.size + 1 < W'.heap.size) := Lib.hid fun w2 W' v1 hb2 hT2 hk hc => by
      obtain ⟨hx1, hx2⟩ := HX.out
      refine ⟨(keeps_below hb2 _).trans (hk _), (hc _ (by have := hb2.size; omega) (by omega) (by omega)).trans (kept_below hb2 hx2), ⟨v1, ?_⟩, ?_⟩
      · rw [strs_snoc, List.length_append, ← hx1]
        exact hT2
      · have := hb2.size
        have := (hk 0).size
        omega
    clear hT hcW hlen
    gi_wp2
    refine wpIn_held (S := fun W' => W'.cell? ⟨w.heap.size, 0, none⟩ = some (.int .i64 ((m : Int) - 1)) ∧ W'.cell? ⟨w.heap.size, 1, none⟩ = some (.slice (some ⟨g, 0, none⟩) (m * m) c1)) (by kernel_rfl) (by kernel_rfl) (by rintro ⟨_, _, h⟩; exact h) T0.out.s (fun hH0 => ?_)
    simp only [List.size_toArray, List.length_cons, List.length_nil, Nat.reduceAdd, Array.replicate_succ, Array.replicate_zero, List.push_toArray, List.nil_append, List.cons_append]
    refine wpAnyH_take (i := 1) (oi := ⟨some 16, _, _, _, _, _⟩) (v := ?_) rfl (by kernel_rfl) (by kernel_rfl) (by kernel_rfl) (fun _ _ _ h => h) (Or.inl ⟨by rfl, ?_⟩) hH0 ?_
    rotate_left
    · intro w hSw
      try dsimp only at hSw
      go_simp
      try with_reducible rfl
    try simp only [Act.put, List.setIfInBounds_toArray, List.set_cons_zero, List.set_cons_succ]
    refine wpAnyH_take (i := 2) (oi := ⟨some 17, _, _, _, _, _⟩) (v := ?_) rfl (by kernel_rfl) (by kernel_rfl) (by kernel_rfl) (fun _ _ _ h => h) (Or.inl ⟨by rfl, ?_⟩) hH0 ?_
    rotate_left
    · intro w hSw
      try dsimp only at hSw
      go_simp
      try with_reducible rfl
    try simp only [Act.put, List.setIfInBounds_toArray, List.set_cons_zero, List.set_cons_succ]
    refine wpAnyH_take (i := 3) (oi := ⟨some 18, _, _, _, _, _⟩) (v := ?_) rfl (by kernel_rfl) (by kernel_rfl) (by kernel_rfl) (fun _ _ _ h => h) (Or.inl ⟨by rfl, ?_⟩) hH0 ?_
    rotate_left
    · intro w hSw
      try dsimp only at hSw
      go_simp
      try with_reducible rfl
    try simp only [Act.put, List.setIfInBounds_toArray, List.set_cons_zero, List.set_cons_succ]
    refine wpAnyH_ready (rs := [0, 4]) (by kernel_rfl) (by simp) ?_
    refine (AllReadyH.cons (o := ⟨some 15, _, _, _, _, _⟩) rfl (fun K hK => ?_) (AllReadyH.cons (o := ⟨some 19, _, _, _, _, _⟩) rfl (fun K hK => ?_) AllReadyH.nil))
    · have zl := T0.out.tb.cell
      go_simp
      refine hK.out _ _ (T0.out.s) (fun hL0 => ?_)
      clear hK K
      try simp only [List.setIfInBounds_toArray, List.set_cons_zero]
      clear zl
      refine wpAnyH_ready (rs := [4]) (by kernel_rfl) (by simp) ?_
      refine (AllReadyH.cons (o := ⟨some 19, _, _, _, _, _⟩) rfl (fun K hK => ?_) AllReadyH.nil)
      go_simp
      refine (HA.out _ T0.out).mono ?_
      rintro e w1 ⟨rfl, hb1⟩
      have T1 := Lib.hid (T0.out.below hb1)
      have D1 : Hid (Below W.heap.size W w1) := Lib.hid ⟨hb1.os, hb1.tape, hb1.output, hb1.size, hb1.block⟩
      clear hb1
      go_wp2_with fail
      refine hK.out _ _ (T1.out.s) (fun hH1 => ?_)
      clear hK K
      try simp only [List.setIfInBounds_toArray, List.set_cons_zero, List.set_cons_succ]
      refine wpAnyH_ready (rs := [5]) (by kernel_rfl) (by simp) ?_
      refine (AllReadyH.cons (o := ⟨some 20, _, _, _, _, _⟩) rfl (fun K hK => ?_) AllReadyH.nil)
      go_simp
      refine (HT.out _ T1.out).mono ?_
      rintro e w2 ⟨rfl, hb2⟩
      have T2 := Lib.hid (T1.out.below hb2)
      have D2 := Lib.hid (zthen D1.out hb2)
      clear hb2
      go_wp2_with fail
      refine hK.out _ _ (T2.out.s) (fun hH2 => ?_)
      clear hK K
      try simp only [List.setIfInBounds_toArray, List.set_cons_zero, List.set_cons_succ]
      refine wpAnyH_ready (rs := [6]) (by kernel_rfl) (by simp) ?_
      refine (AllReadyH.cons (o := ⟨some 21, _, _, _, _, _⟩) rfl (fun K hK => ?_) AllReadyH.nil)
      have T3 := Lib.hid (T2.out.below (zboxed w2 (.cells #[.string (itB (C i j))] 9)))
      go_simp
      refine hK.out _ _ (T3.out.s) (fun hH3 => ?_)
      clear hK K
      try simp only [List.setIfInBounds_toArray, List.set_cons_zero, List.set_cons_succ]
      refine wpAnyH_ready (rs := [7]) (by kernel_rfl) (by simp) ?_
      refine (AllReadyH.cons (o := ⟨some 22, _, _, _, _, _⟩) rfl (fun K hK => ?_) AllReadyH.nil)
      rw [if_pos (by rfl)]
      refine wp_append_at (.tmp 15) (.tmp 21) 75 rfl B1 9 i0 (.string ⟨#[]⟩) 1 16 Tryd.underlying75 hi hz0 hz1 hz2 rfl (by decide) v pre.length (strs C pre) rfl T3.out.row ⟨w2.heap.size, 0, none⟩ 1 1 [.string (itB (C i j))] rfl rfl (news_one1 w2 _ _) (by simp [Value.oneCell']) HM.out.1 HM.out.2 (by rw [World.size_alloc]; have := D2.out.size; have := HB1.out; omega) ?_
      intro v7 w7 ho7 hg7 hl7
      obtain ⟨g7, c7, rfl⟩ := slice_own' ho7 (Nat.succ_pos _)
      have A7 := Lib.hid (T2.out.add ho7 hg7)
      clear ho7 hg7 hl7
      refine hK.out _ _ (A7.out.2.2.1) (fun hH4 => ?_)
      clear hK K
      try simp only [List.setIfInBounds_toArray, List.set_cons_zero, List.set_cons_succ]
      refine wpAnyH_ready (rs := [8]) (by kernel_rfl) (by simp) ?_
      refine (AllReadyH.cons (o := ⟨none, _, _, _, _, _⟩) rfl (fun K hK => ?_) AllReadyH.nil)
      obtain ⟨z0, z1, z2⟩ := A7.out.2.1
      go_simp
      refine hK.out _ _ (A7.out.1.s) (fun hH5 => ?_)
      clear hK K
      try simp only [List.setIfInBounds_toArray, List.set_cons_zero, List.set_cons_succ]
      refine wpAnyH_done (by kernel_rfl) ?_ _
      gi_wp2
      subst hB0
      exact HEnd.out _ _ _ D2.out A7.out.1 A7.out.2.2.2.1 A7.out.2.2.2.2
    · go_simp
      refine (HA.out _ T0.out).mono ?_
      rintro e w1 ⟨rfl, hb1⟩
      have T1 := Lib.hid (T0.out.below hb1)
      have D1 : Hid (Below W.heap.size W w1) := Lib.hid ⟨hb1.os, hb1.tape, hb1.output, hb1.size, hb1.block⟩
      clear hb1
      go_wp2_with fail
      refine hK.out _ _ (T1.out.s) (fun hH1 => ?_)
      clear hK K
      try simp only [List.setIfInBounds_toArray, List.set_cons_zero, List.set_cons_succ]
      refine wpAnyH_ready (rs := [0, 5]) (by kernel_rfl) (by simp) ?_
      refine (AllReadyH.cons (o := ⟨some 15, _, _, _, _, _⟩) rfl (fun K hK => ?_) (AllReadyH.cons (o := ⟨some 20, _, _, _, _, _⟩) rfl (fun K hK => ?_) AllReadyH.nil))
      · have zl := T1.out.tb.cell
        go_simp
        refine hK.out _ _ (T1.out.s) (fun hL1 => ?_)
        clear hK K
        try simp only [List.setIfInBounds_toArray, List.set_cons_zero]
        clear zl
        refine wpAnyH_ready (rs := [5]) (by kernel_rfl) (by simp) ?_
        refine (AllReadyH.cons (o := ⟨some 20, _, _, _, _, _⟩) rfl (fun K hK => ?_) AllReadyH.nil)
        go_simp
        refine (HT.out _ T1.out).mono ?_
        rintro e w2 ⟨rfl, hb2⟩
        have T2 := Lib.hid (T1.out.below hb2)
        have D2 := Lib.hid (zthen D1.out hb2)
        clear hb2
        go_wp2_with fail
        refine hK.out _ _ (T2.out.s) (fun hH2 => ?_)
        clear hK K
        try simp only [List.setIfInBounds_toArray, List.set_cons_zero, List.set_cons_succ]
        refine wpAnyH_ready (rs := [6]) (by kernel_rfl) (by simp) ?_
        refine (AllReadyH.cons (o := ⟨some 21, _, _, _, _, _⟩) rfl (fun K hK => ?_) AllReadyH.nil)
        have T3 := Lib.hid (T2.out.below (zboxed w2 (.cells #[.string (itB (C i j))] 9)))
        go_simp
        refine hK.out _ _ (T3.out.s) (fun hH3 => ?_)
        clear hK K
        try simp only [List.setIfInBounds_toArray, List.set_cons_zero, List.set_cons_succ]
        refine wpAnyH_ready (rs := [7]) (by kernel_rfl) (by simp) ?_
        refine (AllReadyH.cons (o := ⟨some 22, _, _, _, _, _⟩) rfl (fun K hK => ?_) AllReadyH.nil)
        rw [if_pos (by rfl)]
        refine wp_append_at (.tmp 15) (.tmp 21) 75 rfl B1 9 i0 (.string ⟨#[]⟩) 1 16 Tryd.underlying75 hi hz0 hz1 hz2 rfl (by decide) v pre.length (strs C pre) rfl T3.out.row ⟨w2.heap.size, 0, none⟩ 1 1 [.string (itB (C i j))] rfl rfl (news_one1 w2 _ _) (by simp [Value.oneCell']) HM.out.1 HM.out.2 (by rw [World.size_alloc]; have := D2.out.size; have := HB1.out; omega) ?_
        intro v7 w7 ho7 hg7 hl7
        obtain ⟨g7, c7, rfl⟩ := slice_own' ho7 (Nat.succ_pos _)
        have A7 := Lib.hid (T2.out.add ho7 hg7)
        clear ho7 hg7 hl7
        refine hK.out _ _ (A7.out.2.2.1) (fun hH4 => ?_)
        clear hK K
        try simp only [List.setIfInBounds_toArray, List.set_cons_zero, List.set_cons_succ]
        refine wpAnyH_ready (rs := [8]) (by kernel_rfl) (by simp) ?_
        refine (AllReadyH.cons (o := ⟨none, _, _, _, _, _⟩) rfl (fun K hK => ?_) AllReadyH.nil)
        obtain ⟨z0, z1, z2⟩ := A7.out.2.1
        go_simp
        refine hK.out _ _ (A7.out.1.s) (fun hH5 => ?_)
        clear hK K
        try simp only [List.setIfInBounds_toArray, List.set_cons_zero, List.set_cons_succ]
        refine wpAnyH_done (by kernel_rfl) ?_ _
        gi_wp2
        subst hB0
        exact HEnd.out _ _ _ D2.out A7.out.1 A7.out.2.2.2.1 A7.out.2.2.2.2
      · go_simp
        refine (HT.out _ T1.out).mono ?_
        rintro e w2 ⟨rfl, hb2⟩
        have T2 := Lib.hid (T1.out.below hb2)
        have D2 := Lib.hid (zthen D1.out hb2)
        clear hb2
        go_wp2_with fail
        refine hK.out _ _ (T2.out.s) (fun hH2 => ?_)
        clear hK K
        try simp only [List.setIfInBounds_toArray, List.set_cons_zero, List.set_cons_succ]
        refine wpAnyH_ready (rs := [0, 6]) (by kernel_rfl) (by simp) ?_
        refine (AllReadyH.cons (o := ⟨some 15, _, _, _, _, _⟩) rfl (fun K hK => ?_) (AllReadyH.cons (o := ⟨some 21, _, _, _, _, _⟩) rfl (fun K hK => ?_) AllReadyH.nil))
        · have zl := T2.out.tb.cell
          go_simp
          refine hK.out _ _ (T2.out.s) (fun hL2 => ?_)
          clear hK K
          try simp only [List.setIfInBounds_toArray, List.set_cons_zero]
          clear zl
          refine wpAnyH_ready (rs := [6]) (by kernel_rfl) (by simp) ?_
          refine (AllReadyH.cons (o := ⟨some 21, _, _, _, _, _⟩) rfl (fun K hK => ?_) AllReadyH.nil)
          have T3 := Lib.hid (T2.out.below (zboxed w2 (.cells #[.string (itB (C i j))] 9)))
          go_simp
          refine hK.out _ _ (T3.out.s) (fun hH3 => ?_)
          clear hK K
          try simp only [List.setIfInBounds_toArray, List.set_cons_zero, List.set_cons_succ]
          refine wpAnyH_ready (rs := [7]) (by kernel_rfl) (by simp) ?_
          refine (AllReadyH.cons (o := ⟨some 22, _, _, _, _, _⟩) rfl (fun K hK => ?_) AllReadyH.nil)
          rw [if_pos (by rfl)]
          refine wp_append_at (.tmp 15) (.tmp 21) 75 rfl B1 9 i0 (.string ⟨#[]⟩) 1 16 Tryd.underlying75 hi hz0 hz1 hz2 rfl (by decide) v pre.length (strs C pre) rfl T3.out.row ⟨w2.heap.size, 0, none⟩ 1 1 [.string (itB (C i j))] rfl rfl (news_one1 w2 _ _) (by simp [Value.oneCell']) HM.out.1 HM.out.2 (by rw [World.size_alloc]; have := D2.out.size; have := HB1.out; omega) ?_
          intro v7 w7 ho7 hg7 hl7
          obtain ⟨g7, c7, rfl⟩ := slice_own' ho7 (Nat.succ_pos _)
          have A7 := Lib.hid (T2.out.add ho7 hg7)
          clear ho7 hg7 hl7
          refine hK.out _ _ (A7.out.2.2.1) (fun hH4 => ?_)
          clear hK K
          try simp only [List.setIfInBounds_toArray, List.set_cons_zero, List.set_cons_succ]
          refine wpAnyH_ready (rs := [8]) (by kernel_rfl) (by simp) ?_
          refine (AllReadyH.cons (o := ⟨none, _, _, _, _, _⟩) rfl (fun K hK => ?_) AllReadyH.nil)
          obtain ⟨z0, z1, z2⟩ := A7.out.2.1
          go_simp
          refine hK.out _ _ (A7.out.1.s) (fun hH5 => ?_)
          clear hK K
          try simp only [List.setIfInBounds_toArray, List.set_cons_zero, List.set_cons_succ]
          refine wpAnyH_done (by kernel_rfl) ?_ _
          gi_wp2
          subst hB0
          exact HEnd.out _ _ _ D2.out A7.out.1 A7.out.2.2.2.1 A7.out.2.2.2.2
        · have T3 := Lib.hid (T2.out.below (zboxed w2 (.cells #[.string (itB (C i j))] 9)))
          go_simp
          refine hK.out _ _ (T3.out.s) (fun hH3 => ?_)
          clear hK K
          try simp only [List.setIfInBounds_toArray, List.set_cons_zero, List.set_cons_succ]
          refine wpAnyH_ready (rs := [0]) (by kernel_rfl) (by simp) ?_
          refine (AllReadyH.cons (o := ⟨some 15, _, _, _, _, _⟩) rfl (fun K hK => ?_) AllReadyH.nil)
          have zl := T3.out.tb.cell
          go_simp
          refine hK.out _ _ (T3.out.s) (fun hL3 => ?_)
          clear hK K
          try simp only [List.setIfInBounds_toArray, List.set_cons_zero]
          clear zl
          refine wpAnyH_ready (rs := [7]) (by kernel_rfl) (by simp) ?_
          refine (AllReadyH.cons (o := ⟨some 22, _, _, _, _, _⟩) rfl (fun K hK => ?_) AllReadyH.nil)
          rw [if_pos (by rfl)]
          refine wp_append_at (.tmp 15) (.tmp 21) 75 rfl B1 9 i0 (.string ⟨#[]⟩) 1 16 Tryd.underlying75 hi hz0 hz1 hz2 rfl (by decide) v pre.length (strs C pre) rfl T3.out.row ⟨w2.heap.size, 0, none⟩ 1 1 [.string (itB (C i j))] rfl rfl (news_one1 w2 _ _) (by simp [Value.oneCell']) HM.out.1 HM.out.2 (by rw [World.size_alloc]; have := D2.out.size; have := HB1.out; omega) ?_
          intro v7 w7 ho7 hg7 hl7
          obtain ⟨g7, c7, rfl⟩ := slice_own' ho7 (Nat.succ_pos _)
          have A7 := Lib.hid (T2.out.add ho7 hg7)
          clear ho7 hg7 hl7
          refine hK.out _ _ (A7.out.2.2.1) (fun hH4 => ?_)
          clear hK K
          try simp only [List.setIfInBounds_toArray, List.set_cons_zero, List.set_cons_succ]
          refine wpAnyH_ready (rs := [8]) (by kernel_rfl) (by simp) ?_
          refine (AllReadyH.cons (o := ⟨none, _, _, _, _, _⟩) rfl (fun K hK => ?_) AllReadyH.nil)
          obtain ⟨z0, z1, z2⟩ := A7.out.2.1
          go_simp
          refine hK.out _ _ (A7.out.1.s) (fun hH5 => ?_)
          clear hK K
          try simp only [List.setIfInBounds_toArray, List.set_cons_zero, List.set_cons_succ]
          refine wpAnyH_done (by kernel_rfl) ?_ _
          gi_wp2
          subst hB0
          exact HEnd.out _ _ _ D2.out A7.out.1 A7.out.2.2.2.1 A7.out.2.2.2.2
  case done =>
    rintro E ys W hD rfl ⟨⟨v, hT⟩, hcW⟩ hK
    obtain ⟨gt, ct, rfl⟩ := slice_own' hT.row (by rw [spots_len]; exact Nat.mul_pos h0 h0)
    have hrow := hT.row
    rw [spots_len, strs_all] at hrow
    have hct : m * m ≤ ct := by
      rcases hrow.2 with ⟨q, _⟩ | ⟨g', cap', cur, q, _, _, h4, _⟩
      · simp at q
      · simp only [Value.slice.injEq] at q; omega
    have r0 := hT.tb.cell
    have HJ := Lib.hid (HJn.out gt ct W (fun j x hx => by
      rw [Nat.zero_add, hrow.cellAt j (by have := (List.getElem?_eq_some_iff.1 hx).1; rw [List.length_map, flat_len] at this; omega)]
      rw [List.getElem?_map] at hx ⊢
      obtain ⟨y, hy, rfl⟩ := Option.map_eq_some_iff.1 hx
      rw [hy]; rfl) ((hrow.lt gt rfl).2) hct)
    have hlow := hT.low
    have hwl := hT.apart.1
    rw [spots_len] at r0
    have hM := (marks_nil (w3.heap.size + 2) W).cons (by simp at hD; omega) hK (fun D' h => by cases h)
    go_wp2_with (go_at_call 54; ((with_reducible refine HJ.out.mono ?_); rintro e w6 ⟨rfl, hb6⟩))
    exact text_leaves (B0 := w3.heap.size + 2) (by omega) (by have := hb6.size; omega) (hM.keep (keeps_below hb6 _)) (hlow.trans (hb6.mono hlow.size)) rfl
  case stop =>
    rintro E c pre W _ _ h _
    exact h.elim
/-- Any zone. -/
theorem text_any {w : World} {N : Int} {Az : Option Addr} {lz cz m : Nat} {R : Option Mat} (h0 : 0 < m) (h7 : m ≤ 7) (hR : ∀ C, R = some C → Closed m C) (ht : Tabs w)
    (K : ∀ W, Below w.heap.size w W → Calls Tryd.prog 32 #[zoneV N Az lz cz] W (RetC W m R)) :
    Calls Tryd.prog 28 #[zoneV N Az lz cz] w (RetTx (textZ m R) w) := by
  match R, hR, K with
  | none, _, K => exact text_none K
  | some C, hR, K => exact text_pts h0 h7 (hR C rfl) ht K
end Go.Proofs.YtlkbapcienjdcaaDoor
