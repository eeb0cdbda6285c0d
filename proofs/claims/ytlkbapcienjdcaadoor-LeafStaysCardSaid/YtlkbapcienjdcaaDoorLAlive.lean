/- The contract of 'alive', which all statements of the leaf layer ask. -/
import Derived.Test.YtlkbapcienjdcaaDoorLFew
namespace Go.Proofs.YtlkbapcienjdcaaDoor
open Go.RowKit
attribute [local go_sem ↓] Go.wp_at_zero Go.wp_at_succ

def AL : List Int := [0, 0, 3, 0]
/-- The zone: variable 1 is from 0 to 3. -/
def zA : Option Mat := some (rowsM 2 AL)
theorem al_set : SameO 2 (setO 2 (some far) 1 0 3) zA := by
  have e : setO 2 (some far) 1 0 3 = setR 2 (setM (lev (fgt far 1) 2) 1 (meetL 0 3 (-1152921504606846976) 1152921504606846976) (meetH 0 3 (-1152921504606846976) 1152921504606846976)) := by
    show (if namedB (((2 : Nat) : Int) - 1) 1 = true then _ else some far) = _
    rw [if_pos (by decide)]
    rfl
  rw [e]
  exact setR_rows (by decide +kernel) (by decide +kernel)
theorem zA_b : (textZ 2 none == textZ 2 zA) = false := by decide +kernel
theorem zA_f : (textZ 2 (some far) == textZ 2 zA) = false := by decide +kernel
theorem b_f : (textZ 2 none == textZ 2 (some far)) = false := by decide +kernel
theorem jn_none (m : Nat) (R : Option Mat) : jnO m m R none = R := by cases R <;> simp [jnO]
theorem leq_none (m : Nat) (R : Option Mat) : leqO m m none R = true := by simp [leqO]
theorem same_refl (m : Nat) (R : Option Mat) : sameO m m R R = true := by cases R <;> simp [sameO]
theorem zres_closed {W : World} {b m : Nat} {R : Option Mat} {v : Value} (h : ZRes W b m R v) : ∀ C, R = some C → Closed m C := fun C e => by
  subst e
  exact (show Closed m C ∧ _ from h).1
section
variable {A A' A'' : Option Addr} {c c' c'' : Nat}
theorem ia_none : idx 2 [(none, A, c), (some far, A', c')] (textZ 2 zA) = none := by
  unfold idx
  simp only [List.findIdx?_cons, zA_b, zA_f]
  rfl
theorem ia_two : idx 2 [(none, A, c), (some far, A', c'), (zA, A'', c'')] (textZ 2 zA) = some 2 := by
  unfold idx
  simp only [List.findIdx?_cons, zA_b, zA_f, beq_self_eq_true]
  rfl
theorem ia_one : idx 2 [(none, A, c), (some far, A', c'), (zA, A'', c'')] (textZ 2 (some far)) = some 1 := by
  unfold idx
  simp only [List.findIdx?_cons, b_f, beq_self_eq_true]
  rfl
end
section
variable {W : World} {B p bm m lim : Nat} {v : Value} {L : List Lz}
set_option maxHeartbeats 400000 in
theorem tN_any (h : LTab B p bm v m lim L L W) : Calls Tryd.prog 24 #[.pointer (some ⟨p, 0, none⟩)] W (fun e w' => e = .returned (.int .i64 ((m : Int) - 1)) ∧ W = w') := by
  have a := h.tb.cell 0
  clear h
  go_enter Tryd.func24, Tryd.ntmps24
  go_wp2_with fail
  go_ret
  exact ⟨rfl, rfl⟩
end
def Ret2 (C : Mat) (w : World) (e : Ending) (w' : World) : Prop := ∃ A cap, e = .returned (zoneV 1 A 4 cap) ∧ ZRes w' w.heap.size 2 (some C) (zoneV 1 A 4 cap) ∧ Below w.heap.size w w'
theorem ret2 {C : Mat} {w w' : World} {e : Ending} (h : RetC w 2 (some C) e w') : Ret2 C w e w' := h
theorem l_top (w : World) : Calls Tryd.prog 21 #[.int .i64 1] w (Ret2 far w) := (top_any 2 (by decide) (by decide) w).mono fun _ _ h => ret2 h
theorem l_close {w : World} {base : Nat} {C : Mat} {A : Option Addr} {cap : Nat} (hz : ZRes w base 2 (some C) (zoneV 1 A 4 cap)) : Calls Tryd.prog 32 #[zoneV 1 A 4 cap] w (RetC w 2 (some C)) := close_back (m := 2) (R := some C) (by decide) (by decide) hz
theorem l_set {w : World} {base : Nat} {A : Option Addr} {cap : Nat} (hz : ZRes w base 2 (some far) (zoneV 1 A 4 cap)) : Calls Tryd.prog 22 #[zoneV 1 A 4 cap, .int .i64 1, .agg #[.int .i64 0, .int .i64 3]] w (Ret2 (rowsM 2 AL) w) :=
  (set_any (m := 2) (i := 1) (by decide) (by decide) (fun _ hW => l_close (hz.below hW)) (zres_closed hz)).mono fun _ _ h => ret2 (retC_congr h al_set)
section
variable {W : World} {B p bm base : Nat} {v : Value} {A0 A1 A2 A : Option Addr} {c0 c1 c2 c : Nat}
theorem l_new (w : World) (ht : Tabs w) : Calls Tryd.prog 7 #[.int .i64 1, .int .i64 5] w (RetN 2 5 w) := new_in (m := 2) (lim := 5) (by decide) (by decide) (by decide) ht
def RetPut (B p bm : Nat) (v0 : Value) (A0 A1 : Option Addr) (c0 c1 : Nat) (w : World) (e : Ending) (w' : World) : Prop := ∃ v A2 c2, e = .returned (.tuple #[.int .i64 2, .int .i64 0]) ∧ LTab B p bm v 2 5 [(none, A0, c0), (some far, A1, c1), (zA, A2, c2)] [(none, A0, c0), (some far, A1, c1), (zA, A2, c2)] w' ∧ Below B w w' ∧ Sd p bm v0 v w w'
theorem put_first {w w' : World} {e : Ending} (h : RetP B p bm v 2 5 [(none, A0, c0), (some far, A1, c1)] zA w e w') : RetPut B p bm v A0 A1 c0 c1 w e w' := by
  obtain ⟨v', L', i, err, rfl, ht, hb, hs, ho⟩ := h
  rcases ho with ⟨h1, _⟩ | ⟨_, h1, _⟩ | ⟨_, _, ⟨A2, c2, rfl⟩, rfl, rfl⟩
  · rw [ia_none] at h1; cases h1
  · exact absurd h1 (by simp)
  · exact ⟨v', A2, c2, rfl, ht, hb, hs⟩
theorem put_again {w w' : World} {e : Ending} (h : RetP B p bm v 2 5 [(none, A0, c0), (some far, A1, c1), (zA, A2, c2)] zA w e w') : RetPut B p bm v A0 A1 c0 c1 w e w' := by
  obtain ⟨v', L', i, err, rfl, ht, hb, hs, ho⟩ := h
  rcases ho with ⟨h1, rfl, rfl⟩ | ⟨h1, _⟩ | ⟨h1, _⟩
  · rw [ia_two] at h1
    cases h1
    exact ⟨v', A2, c2, rfl, ht, hb, hs⟩
  · rw [ia_two] at h1; cases h1
  · rw [ia_two] at h1; cases h1
theorem l_put1 (h : LTab B p bm v 2 5 [(none, A0, c0), (some far, A1, c1)] [(none, A0, c0), (some far, A1, c1)] W) (hz : ZRes W base 2 zA (zoneV 1 A 4 c)) (ht : ∀ W', Below B W W' → Tabs W') :
    Calls Tryd.prog 23 #[.pointer (some ⟨p, 0, none⟩), zoneV 1 A 4 c] W (RetPut B p bm v A0 A1 c0 c1 W) :=
  (put_in (R := zA) (by decide) (by decide) (by simp) h (zres_closed hz) ht (fun W1 hb => l_close (hz.below hb))).mono fun _ _ hr => put_first hr
theorem l_put2 (h : LTab B p bm v 2 5 [(none, A0, c0), (some far, A1, c1), (zA, A2, c2)] [(none, A0, c0), (some far, A1, c1), (zA, A2, c2)] W) (hz : ZRes W base 2 zA (zoneV 1 A 4 c)) (ht : ∀ W', Below B W W' → Tabs W') :
    Calls Tryd.prog 23 #[.pointer (some ⟨p, 0, none⟩), zoneV 1 A 4 c] W (RetPut B p bm v A0 A1 c0 c1 W) :=
  (put_in (R := zA) (by decide) (by decide) (by simp) h (zres_closed hz) ht (fun W1 hb => l_close (hz.below hb))).mono fun _ _ hr => put_again hr
theorem l_join (h : LTab B p bm v 2 5 [(none, A0, c0), (some far, A1, c1), (zA, A2, c2)] [(none, A0, c0), (some far, A1, c1), (zA, A2, c2)] W) (ht : ∀ W', Below B W W' → Tabs W') :
    Calls Tryd.prog 16 #[.pointer (some ⟨p, 0, none⟩), .int .i64 2, .int .i64 0] W (RetPut B p bm v A0 A1 c0 c1 W) :=
  (joinT_any (i := 2) (j := 0) (by decide) (by decide) (by simp) h ht).mono fun e w' hr => by
    rcases hr.1 with ⟨_, h2⟩ | ⟨h1, _⟩
    · exact put_again (by rw [show jnO 2 2 (atZ [(none, A0, c0), (some far, A1, c1), (zA, A2, c2)] 2) (atZ [(none, A0, c0), (some far, A1, c1), (zA, A2, c2)] 0) = zA from jn_none 2 zA] at h2; exact h2)
    · exact nomatch (show true = false from h1)
theorem l_find (h : LTab B p bm v 2 5 [(none, A0, c0), (some far, A1, c1), (zA, A2, c2)] [(none, A0, c0), (some far, A1, c1), (zA, A2, c2)] W) (hz : ZRes W base 2 (some far) (zoneV 1 A 4 c)) (ht : Tabs W) :
    Calls Tryd.prog 12 #[.pointer (some ⟨p, 0, none⟩), zoneV 1 A 4 c] W (fun e w' => e = .returned (.tuple #[.int .i64 1, .bool true]) ∧ Below W.heap.size W w') :=
  (find_in (R := some far) (by decide) (by decide) h (zres_closed hz) ht (fun W1 hb => l_close (hz.below hb))).mono fun e w' ⟨x, he, hx, hb⟩ => by
    rw [ia_one] at he hx
    rw [hx 1 rfl] at he
    exact ⟨he, hb⟩
theorem l_get (h : LTab B p bm v 2 5 [(none, A0, c0), (some far, A1, c1), (zA, A2, c2)] [(none, A0, c0), (some far, A1, c1), (zA, A2, c2)] W) :
    Calls Tryd.prog 13 #[.pointer (some ⟨p, 0, none⟩), .int .i64 2] W (Ret2 (rowsM 2 AL) W) := (get_any' (by decide) (by decide) h 2).mono fun _ _ h => ret2 h
theorem l_leq (h : LTab B p bm v 2 5 [(none, A0, c0), (some far, A1, c1), (zA, A2, c2)] [(none, A0, c0), (some far, A1, c1), (zA, A2, c2)] W) :
    Calls Tryd.prog 15 #[.pointer (some ⟨p, 0, none⟩), .int .i64 0, .int .i64 2] W (RetB W true) := leqT_any (i := 0) (j := 2) (by decide) (by decide) h
theorem l_same {b1 b2 : Nat} (h1 : ZRes W b1 2 zA (zoneV 1 A1 4 c1)) (h2 : ZRes W b2 2 zA (zoneV 1 A2 4 c2)) : Calls Tryd.prog 14 #[zoneV 1 A1 4 c1, zoneV 1 A2 4 c2] W (RetB W true) := by
  have h := same_any (ma := 2) (mb := 2) (Ra := zA) (Rb := zA) (w := W) (by decide) (by decide) (fun _ hW => l_close (h1.below hW)) (fun _ hW => l_close (h2.below hW))
  rw [same_refl] at h
  exact h
theorem l_n (h : LTab B p bm v 2 5 [(none, A0, c0), (some far, A1, c1), (zA, A2, c2)] [(none, A0, c0), (some far, A1, c1), (zA, A2, c2)] W) : Calls Tryd.prog 24 #[.pointer (some ⟨p, 0, none⟩)] W (fun e w' => e = .returned (.int .i64 1) ∧ W = w') := tN_any h
theorem l_len (h : LTab B p bm v 2 5 [(none, A0, c0), (some far, A1, c1), (zA, A2, c2)] [(none, A0, c0), (some far, A1, c1), (zA, A2, c2)] W) : Calls Tryd.prog 11 #[.pointer (some ⟨p, 0, none⟩)] W (fun e w' => e = .returned (.int .i64 3) ∧ W = w') := len_any h
end
/-- A block is none of a table's. -/
def Free (p bm : Nat) (v : Value) (g : Nat) : Prop := g ≠ p ∧ g ≠ bm ∧ v.ownBlock ≠ some g
def AFree (p bm : Nat) (v : Value) (A : Option Addr) : Prop := ∀ a, A = some a → Free p bm v a.block
section
variable {B p bm m lim base : Nat} {v v' v0 : Value} {L K : List Lz} {W W0 W' : World} {R : Option Mat} {A : Option Addr} {N : Int} {l c g : Nat} {t : TypeId} {x y : Value}
theorem LTab.free (h : LTab B p bm v m lim L K W) (hg : W.heap.size ≤ g) : Free p bm v g :=
  ⟨fun e => by have := h.tb.lt; omega, fun e => by have := h.ids.lt; omega, fun e => by have := (h.row.lt _ e).2; omega⟩
theorem Sd.free (h : Sd p bm v0 v W0 W) (hf : Free p bm v0 g) (hg : g < W0.heap.size) : Free p bm v g ∧ W.heap[g]? = W0.heap[g]? :=
  ⟨⟨hf.1, hf.2.1, fun e => by rcases h.row g e with q | q; exact hf.2.2 q; omega⟩, h.kept g hg hf.1 hf.2.1 hf.2.2⟩
theorem Duo.sd (h : Duo W0 g t x y) (s : Sd p bm v0 v W0 W) (hf : Free p bm v0 g) : Duo W g t x y := (s.free hf h.lt).2.trans h
theorem row_sd {e : TypeId} {size n : Nat} {xs : List Value} {u : Value} (h : W0.ownsRow base e size u n xs) (s : Sd p bm v0 v W0 W) (hf : ∀ g, u.ownBlock = some g → Free p bm v0 g) : W.ownsRow base e size u n xs := by
  refine ⟨h.1, ?_⟩
  rcases h.2 with ⟨e1, e2⟩ | ⟨g, cap, cur, rfl, hb, hg, r⟩
  · exact .inl ⟨e1, e2⟩
  · exact .inr ⟨g, cap, cur, rfl, hb, (s.free (hf g rfl) (Array.getElem?_eq_some_iff.1 hg).1).2.trans hg, r⟩
theorem zres_sd (h : ZRes W0 base m R (zoneV N A l c)) (s : Sd p bm v0 v W0 W) (hf : AFree p bm v0 A) : ZRes W base m R (zoneV N A l c) ∧ AFree p bm v A := by
  cases R with
  | none =>
    have h' : zoneV N A l c = zoneV ((m : Int) - 1) none 0 0 := h
    have e : A = none := by simp [zoneV] at h'; exact h'.2.1
    exact ⟨h, fun a ha => by rw [e] at ha; cases ha⟩
  | some C =>
    obtain ⟨hC, g, cap, e, ho⟩ := h
    have e' : A = some ⟨g, 0, none⟩ := by simp [zoneV] at e; exact e.2.1
    have hfg : Free p bm v0 g := hf _ e'
    refine ⟨⟨hC, g, cap, e, row_sd ho s (fun g' q => ?_)⟩, fun a ha => ?_⟩
    · cases q; exact hfg
    · rw [e'] at ha; cases ha
      exact (s.free hfg (ho.lt g rfl).2).1
theorem zres_free (h : ZRes W base m R (zoneV N A l c)) (hf : ∀ g, base ≤ g → Free p bm v g) : AFree p bm v A := by
  intro a ha
  cases R with
  | none =>
    have h' : zoneV N A l c = zoneV ((m : Int) - 1) none 0 0 := h
    simp [zoneV] at h'
    rw [h'.2.1] at ha; cases ha
  | some C =>
    obtain ⟨hC, g, cap, e, ho⟩ := h
    have e' : A = some ⟨g, 0, none⟩ := by simp [zoneV] at e; exact e.2.1
    rw [e'] at ha; cases ha
    exact hf g (ho.lt g rfl).1
end
/-- A table, and a zone in a box. -/
structure Ax (w : World) (p bm : Nat) (v : Value) (L : List Lz) (zb base : Nat) (A : Option Addr) (c : Nat) (W : World) : Prop where
  t : LTab w.heap.size p bm v 2 5 L L W
  z : ZRes W base 2 zA (zoneV 1 A 4 c)
  b : Duo W zb 39 (.int .i64 1) (.slice A 4 c)
  low : Below w.heap.size w W
  fb : Free p bm v zb
  fa : AFree p bm v A
section
variable {w W W1 : World} {p bm zb base c : Nat} {v v' : Value} {A : Option Addr} {L L' : List Lz}
theorem Ax.below (h : Ax w p bm v L zb base A c W) (hb : Below W.heap.size W W1) : Ax w p bm v L zb base A c W1 := ⟨h.t.below hb, h.z.below hb, h.b.below hb, h.low.trans (hb.mono h.low.size), h.fb, h.fa⟩
theorem Ax.s (h : Ax w p bm v L zb base A c W) : W.cell? ⟨zb, 0, none⟩ = some (.int .i64 1) ∧ W.cell? ⟨zb, 1, none⟩ = some (.slice A 4 c) := ⟨h.b.cell0, h.b.cell1⟩
theorem Ax.put (h : Ax w p bm v L zb base A c W) (ht : LTab w.heap.size p bm v' 2 5 L' L' W1) (hb : Below w.heap.size W W1) (hs : Sd p bm v v' W W1) : Ax w p bm v' L' zb base A c W1 :=
  ⟨ht, (zres_sd h.z hs h.fa).1, h.b.sd hs h.fb, h.low.trans hb, (hs.free h.fb h.b.lt).1, (zres_sd h.z hs h.fa).2⟩
end
set_option maxRecDepth 100000 in
set_option maxHeartbeats 3200000 in
theorem alive_any (w : World) (ht : Tabs w) : Calls Tryd.prog 9 #[] w (RetB w true) := by
  have HT : Hid (∀ W', Below w.heap.size w W' → Tabs W') := Lib.hid fun W' hb => ht.stays hb
  have HNw := Lib.hid (l_new w ht)
  clear ht
  go_enter Tryd.func9, Tryd.ntmps9
  go_wp2_with (first
    | (go_at_call 7; ((with_reducible refine (HNw.out).mono ?_); rintro e w1 ⟨p, bm, v1, A0, c0, A1, c1, rfl, hT1, hb1⟩); have T1 := Lib.hid hT1; have B1 := Lib.hid hb1; clear hT1 hb1)
    | (go_at_call 21; ((with_reducible refine (l_top _).mono ?_); rintro e w2 ⟨A2, c2, rfl, hz2, hb2⟩); have T2 := Lib.hid (T1.out.below hb2); have B2 := Lib.hid (B1.out.trans (hb2.mono B1.out.size)); have Z2 := Lib.hid hz2; clear hz2 hb2)
    | (go_at_call 22; ((with_reducible refine (l_set Z2.out).mono ?_); rintro e w3 ⟨A3, c3, rfl, hz3, hb3⟩);
       have X3 : Hid (Ax w p bm v1 [(none, A0, c0), (some far, A1, c1)] w3.heap.size w2.heap.size A3 c3 (w3.alloc (.cells #[.int .i64 1, .slice A3 4 c3] 39))) := Lib.hid
         ⟨(T2.out.below hb3).below (zboxed w3 _), hz3.below (zboxed w3 _), Duo.new w3 _ _ _, (B2.out.trans (hb3.mono B2.out.size)).trans ((zboxed w3 _).mono (Nat.le_trans B2.out.size hb3.size)), (T2.out.below hb3).free (Nat.le_refl _), zres_free hz3 (fun g hg => T2.out.free hg)⟩;
       obtain ⟨x0, x1⟩ := X3.out.s; clear hz3 hb3)
    | (go_at_call 23; ((with_reducible refine (l_put1 X3.out.t X3.out.z (fun W' hb => HT.out _ (X3.out.low.trans hb))).mono ?_); rintro e w4 ⟨v4, A4, c4, rfl, hT4, hb4, hs4⟩); have X4 := Lib.hid (X3.out.put hT4 hb4 hs4); obtain ⟨y0, y1⟩ := X4.out.s; clear hT4 hb4 hs4)
    | (go_at_call 23; ((with_reducible refine (l_put2 X4.out.t X4.out.z (fun W' hb => HT.out _ (X4.out.low.trans hb))).mono ?_); rintro e w5 ⟨v5, A5, c5, rfl, hT5, hb5, hs5⟩); have X5 := Lib.hid (X4.out.put hT5 hb5 hs5); clear hT5 hb5 hs5)
    | (go_at_call 16; ((with_reducible refine (l_join X5.out.t (fun W' hb => HT.out _ (X5.out.low.trans hb))).mono ?_); rintro e w6 ⟨v6, A6, c6, rfl, hT6, hb6, hs6⟩); have X6 := Lib.hid (X5.out.put hT6 hb6 hs6); clear hT6 hb6 hs6)
    | (go_at_call 21; ((with_reducible refine (l_top _).mono ?_); rintro e w7 ⟨A7, c7, rfl, hz7, hb7⟩); have X7 := Lib.hid (X6.out.below hb7); have Z7 := Lib.hid hz7; clear hz7 hb7)
    | (go_at_call 12; ((with_reducible refine (l_find X7.out.t Z7.out (HT.out _ X7.out.low)).mono ?_); rintro e w8 ⟨rfl, hb8⟩); have X8 := Lib.hid (X7.out.below hb8); clear hb8))
  have Lx0 := Lib.hid (X8.out.below (Below.refl _ _).drew)
  have Kx0 := Lib.hid Lx0.out.s
  clear T1 T2 B1 B2 Z2 X3 x0 x1 X4 y0 y1 X5 X6 X7 Z7 X8 HT HNw
  go_region_held3 (fun w' => w'.cell? ⟨w3.heap.size, 0, none⟩ = some (.int .i64 1) ∧ w'.cell? ⟨w3.heap.size, 1, none⟩ = some (.slice A3 4 c3))
    (first | (with_reducible exact Kx0.out) | (with_reducible exact Kx1.out) | (with_reducible exact Kx2.out) | (with_reducible exact Kx3.out))
    (first
    | (go_at_call 11; ((with_reducible refine (l_len Lx0.out.t).mono ?_); rintro e x0 ⟨rfl, rfl⟩))
    | (go_at_call 13; ((with_reducible refine (l_get Lx0.out.t).mono ?_); rintro e x1 ⟨A9, c9, rfl, hz9, hx1⟩); have Lx1 := Lib.hid (Lx0.out.below hx1); have Kx1 := Lib.hid Lx1.out.s; have Z9 := Lib.hid hz9; clear hz9)
    | (go_at_call 14; ((with_reducible refine (l_same Z9.out Lx1.out.z).mono ?_); rintro e x2 ⟨rfl, hx2⟩); have Lx2 := Lib.hid (Lx1.out.below hx2); have Kx2 := Lib.hid Lx2.out.s)
    | (go_at_call 15; ((with_reducible refine (l_leq Lx2.out.t).mono ?_); rintro e x3 ⟨rfl, hx3⟩); have Lx3 := Lib.hid (Lx2.out.below hx3); have Kx3 := Lib.hid Lx3.out.s)
    | (go_at_call 24; ((with_reducible refine (l_n Lx3.out.t).mono ?_); rintro e x4 ⟨rfl, rfl⟩)))
  all_goals go_wp2_with fail
  all_goals go_ret
  all_goals exact ⟨rfl, Lx3.out.low⟩
end Go.Proofs.YtlkbapcienjdcaaDoor
