/- The leaf layer: a call of a script, done on a table. -/
import Derived.Test.YtlkbapcienjdcaaDoorLOpr
namespace Go.Proofs.YtlkbapcienjdcaaDoor
open Go.RowKit
attribute [local go_sem ↓] Go.wp_at_zero Go.wp_at_succ

/-- What a call would put, or what it tells. -/
def want (m : Nat) (L : List Lz) (o : Opr) : Option Mat ⊕ Int :=
  if o.kd = 0 then if o.N = (m : Int) - 1 then .inl (zr o.N o.mz o.fz) else .inr 1
  else if o.kd = 1 then if (hasN L.length o.a && hasN L.length o.b) = true then .inl (jnO m m (atZ L o.a) (atZ L o.b)) else .inr 1
  else if o.kd = 2 then if (hasN L.length o.a && hasN L.length o.b) = true then .inl (mtO m m (atZ L o.a) (atZ L o.b)) else .inr 1
  else if o.kd = 3 then if (hasN L.length o.a && hasN L.length o.b) = true then .inl (wdO m o.fs o.ms (atZ L o.a) (atZ L o.b)) else .inr 1
  else if o.kd = 4 then if hasN L.length o.a = true then if o.N = (m : Int) - 1 then .inl (zr o.N o.mz o.fz) else .inr 1 else .inr 1
  else .inr 0
def DoO (m lim : Nat) (L : List Lz) (x : Option Mat ⊕ Int) (L' : List Lz) (i err : Int) : Prop :=
  match x with
  | .inl R => PutO m lim L R L' i err
  | .inr e => L' = L ∧ i = 0 ∧ err = e
def RetDo (B p bm : Nat) (v : Value) (m lim : Nat) (L : List Lz) (x : Option Mat ⊕ Int) (w : World) (e : Ending) (w' : World) : Prop := ∃ v' L' i err, e = .returned (.tuple #[.int .i64 i, .int .i64 err]) ∧ LTab B p bm v' m lim L' L' w' ∧ Below B w w' ∧ Sd p bm v v' w w' ∧ DoO m lim L x L' i err
section
variable {W : World} {B p bm m lim : Nat} {v : Value} {L : List Lz} {N : Int} {A : Option Addr} {l c : Nat} {f : Nat → Int}
theorem LTab.lo {K : List Lz} (h : LTab B p bm v m lim L K W) : B ≤ W.heap.size := h.le
theorem retP_do {R : Option Mat} {w w' : World} {e : Ending} (h : RetP B p bm v m lim L R w e w') : RetDo B p bm v m lim L (.inl R) w e w' := h
theorem putT_any (h0 : 0 < m) (h7 : m ≤ 7) (hL : L.length ≤ 100000) (h : LTab B p bm v m lim L L W) (hz : ZArg W (zoneV N A l c) N l f) (ht : ∀ W', Below B W W' → Tabs W') :
    Calls Tryd.prog 23 #[.pointer (some ⟨p, 0, none⟩), zoneV N A l c] W (RetDo B p bm v m lim L (if N = (m : Int) - 1 then .inl (zr N l f) else .inr 1) W) := by
  by_cases hN : N = (m : Int) - 1
  · rw [if_pos hN]
    have hm : zm N = m := by rw [hN]; exact (zm_of h0 h7).2
    subst hN
    refine (put_in (R := zr ((m : Int) - 1) l f) h0 h7 hL h (fun C hC => by have := zr_closed hC; rw [hm] at this; exact this) ht (fun W1 hb => ?_)).mono fun e w' hr => retP_do hr
    have := close_z (hz.below hb)
    rw [hm] at this
    exact this
  · rw [if_neg hN]
    exact (put_out h hN).mono fun e w' ⟨he, hb⟩ => ⟨v, L, 0, 1, he, h.below hb, hb.mono h.le, (Sd.refl p bm v W).below hb, rfl, rfl, rfl⟩
/-- The box of a call. -/
theorem op_box (W : World) (kd a b N : Int) (A S : Option Addr) (l c n sc : Nat) (x : World) (hx : x = W.alloc (.cells #[.int .i64 kd, .int .i64 a, .int .i64 b, .int .i64 N, .slice A l c, .slice S n sc] 33)) :
    (x.cell? ⟨W.heap.size, 0, none⟩ = some (.int .i64 kd) ∧ x.cell? ⟨W.heap.size, 1, none⟩ = some (.int .i64 a) ∧ x.cell? ⟨W.heap.size, 2, none⟩ = some (.int .i64 b) ∧ x.cell? ⟨W.heap.size, 3, none⟩ = some (.int .i64 N) ∧ x.cell? ⟨W.heap.size, 4, none⟩ = some (.slice A l c) ∧ x.cell? ⟨W.heap.size, 5, none⟩ = some (.slice S n sc)) ∧ Below W.heap.size W x ∧ W.heap.size < x.heap.size := by
  subst hx
  have hb := Blk.new W 33 #[.int .i64 kd, .int .i64 a, .int .i64 b, .int .i64 N, .slice A l c, .slice S n sc]
  exact ⟨⟨hb.cell 0, hb.cell 1, hb.cell 2, hb.cell 3, hb.cell 4, hb.cell 5⟩, zboxed W _, hb.lt⟩
theorem RetDo.low {w0 w w' : World} {x : Option Mat ⊕ Int} {e : Ending} (h : RetDo B p bm v m lim L x w e w') (hB : B ≤ w0.heap.size) (hb : Below w0.heap.size w0 w) : RetDo B p bm v m lim L x w0 e w' := by
  obtain ⟨v', L', i, err, he, ht, hw, hs, hd⟩ := h
  exact ⟨v', L', i, err, he, ht, (hb.mono hB).trans hw, hs.before hb, hd⟩
theorem RetDo.two {w w' : World} {x : Option Mat ⊕ Int} {e : Ending} (h : RetDo B p bm v m lim L x w e w') : ∃ a b : Int, e = .returned (.tuple #[.int .i64 a, .int .i64 b]) := by
  obtain ⟨v', L', i, err, he, -⟩ := h
  exact ⟨i, err, he⟩
theorem retBo_do {i j : Int} {F : Option Mat → Option Mat → Option Mat} {w w' : World} {e : Ending} (hB : B ≤ w.heap.size) (h : RetBo B p bm v m lim L i j F w e w') : RetDo B p bm v m lim L (if (hasN L.length i && hasN L.length j) = true then .inl (F (atZ L i) (atZ L j)) else .inr 1) w e w' := by
  rcases h with ⟨h1, h2⟩ | ⟨h1, rfl, h2, h3⟩
  · rw [if_pos h1]; exact retP_do h2
  · rw [if_neg (by rw [h1]; decide)]
    exact ⟨v, L, 0, 1, rfl, h2, h3.mono hB, (Sd.refl p bm v w).below h3, rfl, rfl, rfl⟩
theorem below_fact {B : Nat} {W W' : World} (h0 : B ≤ W.heap.size) (h : Below W.heap.size W W') : Below B W W' := h.mono h0

set_option maxRecDepth 100000 in
set_option maxHeartbeats 1600000 in
theorem does_0 {a b : Int} {S : Option Addr} {n sc : Nat} {fs : Nat → Int} (h0 : 0 < m) (h7 : m ≤ 7) (hL : L.length ≤ 100000) (h : LTab B p bm v m lim L L W) (hz : ZArg W (zoneV N A l c) N l f) (_ : n ≤ 9223372036854775807) (_ : Sp.Ints W S n fs) (ht : ∀ W', Below B W W' → Tabs W') :
    Calls Tryd.prog 10 #[.pointer (some ⟨p, 0, none⟩), .agg #[.int .i64 (0 : Int), .int .i64 a, .int .i64 b, .int .i64 N, .slice A l c, .slice S n sc]] W (RetDo B p bm v m lim L (if N = (m : Int) - 1 then .inl (zr N l f) else .inr 1) W) := by
  have n0 : ((0 : Int) == 0) = true := by decide
  have m0 : decide ((0 : Int) = 0) = true := by decide
  have n1 : ((0 : Int) == 1) = false := by decide
  have m1 : decide ((0 : Int) = 1) = false := by decide
  have n2 : ((0 : Int) == 2) = false := by decide
  have m2 : decide ((0 : Int) = 2) = false := by decide
  have n3 : ((0 : Int) == 3) = false := by decide
  have m3 : decide ((0 : Int) = 3) = false := by decide
  have n4 : ((0 : Int) == 4) = false := by decide
  have m4 : decide ((0 : Int) = 4) = false := by decide
  obtain ⟨⟨x0, x1, x2, x3, x4, x5⟩, hb, hlt⟩ := op_box W (0 : Int) a b N A S l c n sc _ rfl
  have HB := Lib.hid hb
  have HLT := Lib.hid hlt
  have HC3 := Lib.hid x3
  have HC4 := Lib.hid x4
  obtain ⟨X, hX⟩ : ∃ X : Option Mat ⊕ Int, (if N = (m : Int) - 1 then .inl (zr N l f) else .inr 1) = X := ⟨_, rfl⟩
  rw [hX]
  have HK : Hid (∀ W', Below W.heap.size W W' → Calls Tryd.prog 23 #[.pointer (some ⟨p, 0, none⟩), zoneV N A l c] W' (RetDo B p bm v m lim L X W)) := Lib.hid fun W' hb => by
    rw [← hX]
    exact (putT_any h0 h7 hL (h.below hb) (hz.below hb) (fun W2 hb2 => ht W2 ((hb.mono h.le).trans hb2))).mono fun e w' hr => hr.low h.le hb
  have hmf : ∀ (fn : Fn) (first cap : Array Value) (w : World), (Instr.makeFunc fn first cap).run Tryd.prog w = .ok (.func fn first cap) w := fun _ _ _ _ => rfl
  have HX := Lib.hid hX
  clear hb hX h hz ht h0 h7 hL
  go_enter Tryd.func10, Tryd.ntmps10
  go_wp2_with (go_at_call 23; ((with_reducible refine (HK.out _ HB.out).mono ?_); intro e w1 hr); have HR := Lib.hid hr; obtain ⟨x, y, he⟩ := hr.two; clear hr; subst he)
  go_ret2
  exact HR.out

set_option maxRecDepth 100000 in
set_option maxHeartbeats 1600000 in
theorem does_1 {a b : Int} {S : Option Addr} {n sc : Nat} {fs : Nat → Int} (h0 : 0 < m) (h7 : m ≤ 7) (hL : L.length ≤ 100000) (h : LTab B p bm v m lim L L W) (_ : ZArg W (zoneV N A l c) N l f) (_ : n ≤ 9223372036854775807) (_ : Sp.Ints W S n fs) (ht : ∀ W', Below B W W' → Tabs W') :
    Calls Tryd.prog 10 #[.pointer (some ⟨p, 0, none⟩), .agg #[.int .i64 (1 : Int), .int .i64 a, .int .i64 b, .int .i64 N, .slice A l c, .slice S n sc]] W (RetDo B p bm v m lim L (if (hasN L.length a && hasN L.length b) = true then .inl (jnO m m (atZ L a) (atZ L b)) else .inr 1) W) := by
  have n0 : ((1 : Int) == 0) = false := by decide
  have m0 : decide ((1 : Int) = 0) = false := by decide
  have n1 : ((1 : Int) == 1) = true := by decide
  have m1 : decide ((1 : Int) = 1) = true := by decide
  have n2 : ((1 : Int) == 2) = false := by decide
  have m2 : decide ((1 : Int) = 2) = false := by decide
  have n3 : ((1 : Int) == 3) = false := by decide
  have m3 : decide ((1 : Int) = 3) = false := by decide
  have n4 : ((1 : Int) == 4) = false := by decide
  have m4 : decide ((1 : Int) = 4) = false := by decide
  obtain ⟨⟨x0, x1, x2, x3, x4, x5⟩, hb, hlt⟩ := op_box W (1 : Int) a b N A S l c n sc _ rfl
  have HB := Lib.hid hb
  have HLT := Lib.hid hlt
  have HC3 := Lib.hid x3
  have HC4 := Lib.hid x4
  obtain ⟨X, hX⟩ : ∃ X : Option Mat ⊕ Int, (if (hasN L.length a && hasN L.length b) = true then .inl (jnO m m (atZ L a) (atZ L b)) else .inr 1) = X := ⟨_, rfl⟩
  rw [hX]
  have HK : Hid (∀ W', Below W.heap.size W W' → Calls Tryd.prog 16 #[.pointer (some ⟨p, 0, none⟩), .int .i64 a, .int .i64 b] W' (RetDo B p bm v m lim L X W)) := Lib.hid fun W' hb => by
    rw [← hX]
    exact (joinT_any h0 h7 hL (h.below hb) (fun W2 hb2 => ht W2 ((hb.mono h.le).trans hb2))).mono fun e w' hr => (retBo_do (h.below hb).le hr.1).low h.le hb
  have hmf : ∀ (fn : Fn) (first cap : Array Value) (w : World), (Instr.makeFunc fn first cap).run Tryd.prog w = .ok (.func fn first cap) w := fun _ _ _ _ => rfl
  have HX := Lib.hid hX
  clear hb hX h ht h0 h7 hL
  go_enter Tryd.func10, Tryd.ntmps10
  go_wp2_with (go_at_call 16; ((with_reducible refine (HK.out _ HB.out).mono ?_); intro e w1 hr); have HR := Lib.hid hr; obtain ⟨x, y, he⟩ := hr.two; clear hr; subst he)
  go_ret2
  exact HR.out

set_option maxRecDepth 100000 in
set_option maxHeartbeats 1600000 in
theorem does_2 {a b : Int} {S : Option Addr} {n sc : Nat} {fs : Nat → Int} (h0 : 0 < m) (h7 : m ≤ 7) (hL : L.length ≤ 100000) (h : LTab B p bm v m lim L L W) (_ : ZArg W (zoneV N A l c) N l f) (_ : n ≤ 9223372036854775807) (_ : Sp.Ints W S n fs) (ht : ∀ W', Below B W W' → Tabs W') :
    Calls Tryd.prog 10 #[.pointer (some ⟨p, 0, none⟩), .agg #[.int .i64 (2 : Int), .int .i64 a, .int .i64 b, .int .i64 N, .slice A l c, .slice S n sc]] W (RetDo B p bm v m lim L (if (hasN L.length a && hasN L.length b) = true then .inl (mtO m m (atZ L a) (atZ L b)) else .inr 1) W) := by
  have n0 : ((2 : Int) == 0) = false := by decide
  have m0 : decide ((2 : Int) = 0) = false := by decide
  have n1 : ((2 : Int) == 1) = false := by decide
  have m1 : decide ((2 : Int) = 1) = false := by decide
  have n2 : ((2 : Int) == 2) = true := by decide
  have m2 : decide ((2 : Int) = 2) = true := by decide
  have n3 : ((2 : Int) == 3) = false := by decide
  have m3 : decide ((2 : Int) = 3) = false := by decide
  have n4 : ((2 : Int) == 4) = false := by decide
  have m4 : decide ((2 : Int) = 4) = false := by decide
  obtain ⟨⟨x0, x1, x2, x3, x4, x5⟩, hb, hlt⟩ := op_box W (2 : Int) a b N A S l c n sc _ rfl
  have HB := Lib.hid hb
  have HLT := Lib.hid hlt
  have HC3 := Lib.hid x3
  have HC4 := Lib.hid x4
  obtain ⟨X, hX⟩ : ∃ X : Option Mat ⊕ Int, (if (hasN L.length a && hasN L.length b) = true then .inl (mtO m m (atZ L a) (atZ L b)) else .inr 1) = X := ⟨_, rfl⟩
  rw [hX]
  have HK : Hid (∀ W', Below W.heap.size W W' → Calls Tryd.prog 18 #[.pointer (some ⟨p, 0, none⟩), .int .i64 a, .int .i64 b] W' (RetDo B p bm v m lim L X W)) := Lib.hid fun W' hb => by
    rw [← hX]
    exact (meetT_any h0 h7 hL (h.below hb) (fun W2 hb2 => ht W2 ((hb.mono h.le).trans hb2))).mono fun e w' hr => (retBo_do (h.below hb).le hr.1).low h.le hb
  have hmf : ∀ (fn : Fn) (first cap : Array Value) (w : World), (Instr.makeFunc fn first cap).run Tryd.prog w = .ok (.func fn first cap) w := fun _ _ _ _ => rfl
  have HX := Lib.hid hX
  clear hb hX h ht h0 h7 hL
  go_enter Tryd.func10, Tryd.ntmps10
  go_wp2_with (go_at_call 18; ((with_reducible refine (HK.out _ HB.out).mono ?_); intro e w1 hr); have HR := Lib.hid hr; obtain ⟨x, y, he⟩ := hr.two; clear hr; subst he)
  go_ret2
  exact HR.out

set_option maxRecDepth 100000 in
set_option maxHeartbeats 1600000 in
theorem does_3 {a b : Int} {S : Option Addr} {n sc : Nat} {fs : Nat → Int} (h0 : 0 < m) (h7 : m ≤ 7) (hL : L.length ≤ 100000) (h : LTab B p bm v m lim L L W) (_ : ZArg W (zoneV N A l c) N l f) (hn : n ≤ 9223372036854775807) (hS : Sp.Ints W S n fs) (ht : ∀ W', Below B W W' → Tabs W') :
    Calls Tryd.prog 10 #[.pointer (some ⟨p, 0, none⟩), .agg #[.int .i64 (3 : Int), .int .i64 a, .int .i64 b, .int .i64 N, .slice A l c, .slice S n sc]] W (RetDo B p bm v m lim L (if (hasN L.length a && hasN L.length b) = true then .inl (wdO m fs n (atZ L a) (atZ L b)) else .inr 1) W) := by
  have n0 : ((3 : Int) == 0) = false := by decide
  have m0 : decide ((3 : Int) = 0) = false := by decide
  have n1 : ((3 : Int) == 1) = false := by decide
  have m1 : decide ((3 : Int) = 1) = false := by decide
  have n2 : ((3 : Int) == 2) = false := by decide
  have m2 : decide ((3 : Int) = 2) = false := by decide
  have n3 : ((3 : Int) == 3) = true := by decide
  have m3 : decide ((3 : Int) = 3) = true := by decide
  have n4 : ((3 : Int) == 4) = false := by decide
  have m4 : decide ((3 : Int) = 4) = false := by decide
  obtain ⟨⟨x0, x1, x2, x3, x4, x5⟩, hb, hlt⟩ := op_box W (3 : Int) a b N A S l c n sc _ rfl
  have HB := Lib.hid hb
  have HLT := Lib.hid hlt
  have HC3 := Lib.hid x3
  have HC4 := Lib.hid x4
  obtain ⟨X, hX⟩ : ∃ X : Option Mat ⊕ Int, (if (hasN L.length a && hasN L.length b) = true then .inl (wdO m fs n (atZ L a) (atZ L b)) else .inr 1) = X := ⟨_, rfl⟩
  rw [hX]
  have HK : Hid (∀ W', Below W.heap.size W W' → Calls Tryd.prog 25 #[.pointer (some ⟨p, 0, none⟩), .int .i64 a, .int .i64 b, .slice S n sc] W' (RetDo B p bm v m lim L X W)) := Lib.hid fun W' hb => by
    rw [← hX]
    refine (widenT_any h0 h7 hn hL (h.below hb) (fun W2 hb2 => ht W2 ((hb.mono h.le).trans hb2)) (hS.below hb)).mono fun e w' hr => ?_
    obtain ⟨⟨W1, hb1, hr1⟩, -⟩ := hr
    exact (retBo_do ((h.below hb).below hb1).le hr1).low h.le (hb.trans (hb1.mono hb.size))
  have hmf : ∀ (fn : Fn) (first cap : Array Value) (w : World), (Instr.makeFunc fn first cap).run Tryd.prog w = .ok (.func fn first cap) w := fun _ _ _ _ => rfl
  have HX := Lib.hid hX
  clear hb hX h hn hS ht h0 h7 hL
  go_enter Tryd.func10, Tryd.ntmps10
  go_wp2_with (go_at_call 25; ((with_reducible refine (HK.out _ HB.out).mono ?_); intro e w1 hr); have HR := Lib.hid hr; obtain ⟨x, y, he⟩ := hr.two; clear hr; subst he)
  go_ret2
  exact HR.out

set_option maxRecDepth 100000 in
set_option maxHeartbeats 1600000 in
theorem does_4 {a b : Int} {S : Option Addr} {n sc : Nat} {fs : Nat → Int} (h0 : 0 < m) (h7 : m ≤ 7) (hL : L.length ≤ 100000) (h : LTab B p bm v m lim L L W) (hz : ZArg W (zoneV N A l c) N l f) (_ : n ≤ 9223372036854775807) (_ : Sp.Ints W S n fs) (ht : ∀ W', Below B W W' → Tabs W') :
    Calls Tryd.prog 10 #[.pointer (some ⟨p, 0, none⟩), .agg #[.int .i64 (4 : Int), .int .i64 a, .int .i64 b, .int .i64 N, .slice A l c, .slice S n sc]] W (RetDo B p bm v m lim L (if hasN L.length a = true then if N = (m : Int) - 1 then .inl (zr N l f) else .inr 1 else .inr 1) W) := by
  have n0 : ((4 : Int) == 0) = false := by decide
  have m0 : decide ((4 : Int) = 0) = false := by decide
  have n1 : ((4 : Int) == 1) = false := by decide
  have m1 : decide ((4 : Int) = 1) = false := by decide
  have n2 : ((4 : Int) == 2) = false := by decide
  have m2 : decide ((4 : Int) = 2) = false := by decide
  have n3 : ((4 : Int) == 3) = false := by decide
  have m3 : decide ((4 : Int) = 3) = false := by decide
  have n4 : ((4 : Int) == 4) = true := by decide
  have m4 : decide ((4 : Int) = 4) = true := by decide
  obtain ⟨⟨x0, x1, x2, x3, x4, x5⟩, hb, hlt⟩ := op_box W (4 : Int) a b N A S l c n sc _ rfl
  have HB := Lib.hid hb
  have HLT := Lib.hid hlt
  have HC3 := Lib.hid x3
  have HC4 := Lib.hid x4
  obtain ⟨X, hX⟩ : ∃ X : Option Mat ⊕ Int, (if hasN L.length a = true then if N = (m : Int) - 1 then .inl (zr N l f) else .inr 1 else .inr 1) = X := ⟨_, rfl⟩
  rw [hX]
  have HK : Hid (∀ W', W'.cell? ⟨W.heap.size, 3, none⟩ = some (.int .i64 N) → W'.cell? ⟨W.heap.size, 4, none⟩ = some (.slice A l c) → W.heap.size < W'.heap.size → Below W.heap.size W W' → Calls Tryd.prog 26 #[.pointer (some ⟨p, 0, none⟩), .int .i64 a, .func (.func 27) #[] #[.pointer (some ⟨W.heap.size, 0, none⟩)]] W' (RetDo B p bm v m lim L X W)) := Lib.hid fun W' c3 c4 hlt hb => by
    rw [← hX]
    refine (mapT_any (Q := fun W2 => RetDo B p bm v m lim L (if N = (m : Int) - 1 then .inl (zr N l f) else .inr 1) W2) (i := a) h0 h7 (h.below hb) c3 c4 hlt (fun W2 e w' hr => hr.two) (fun W2 hb2 => putT_any h0 h7 hL ((h.below hb).below hb2) ((hz.below hb).below hb2) (fun W3 hb3 => ht W3 (((hb.mono h.le).trans (hb2.mono (Nat.le_trans h.le hb.size))).trans hb3)))).mono fun e w' hr => ?_
    rcases hr.1 with ⟨h1, W2, hb2, hr2⟩ | ⟨h1, rfl, hb2⟩
    · rw [if_pos h1]
      exact hr2.low h.le (hb.trans (hb2.mono hb.size))
    · rw [if_neg (by rw [h1]; decide)]
      exact ⟨v, L, 0, 1, rfl, (h.below hb).below hb2, (hb.trans (hb2.mono hb.size)).mono h.le, (Sd.refl p bm v W).below (hb.trans (hb2.mono hb.size)), rfl, rfl, rfl⟩
  have hmf : ∀ (fn : Fn) (first cap : Array Value) (w : World), (Instr.makeFunc fn first cap).run Tryd.prog w = .ok (.func fn first cap) w := fun _ _ _ _ => rfl
  have HX := Lib.hid hX
  clear hb hX h hz ht h0 h7 hL
  go_enter Tryd.func10, Tryd.ntmps10
  go_wp2_with (go_at_call 26; ((with_reducible refine (HK.out _ HC3.out HC4.out HLT.out HB.out).mono ?_); intro e w1 hr); have HR := Lib.hid hr; obtain ⟨x, y, he⟩ := hr.two; clear hr; subst he)
  go_ret2
  exact HR.out

set_option maxRecDepth 100000 in
set_option maxHeartbeats 1600000 in
theorem does_5 {kd a b : Int} {S : Option Addr} {n sc : Nat} {fs : Nat → Int} (hk : kd ≠ 0 ∧ kd ≠ 1 ∧ kd ≠ 2 ∧ kd ≠ 3 ∧ kd ≠ 4) (_ : 0 < m) (_ : m ≤ 7) (_ : L.length ≤ 100000) (h : LTab B p bm v m lim L L W) (_ : ZArg W (zoneV N A l c) N l f) (_ : n ≤ 9223372036854775807) (_ : Sp.Ints W S n fs) (_ : ∀ W', Below B W W' → Tabs W') :
    Calls Tryd.prog 10 #[.pointer (some ⟨p, 0, none⟩), .agg #[.int .i64 kd, .int .i64 a, .int .i64 b, .int .i64 N, .slice A l c, .slice S n sc]] W (RetDo B p bm v m lim L (.inr 0) W) := by
  have n0 : (kd == 0) = false := by simp; omega
  have m0 : decide (kd = 0) = false := decide_eq_false (by omega)
  have n1 : (kd == 1) = false := by simp; omega
  have m1 : decide (kd = 1) = false := decide_eq_false (by omega)
  have n2 : (kd == 2) = false := by simp; omega
  have m2 : decide (kd = 2) = false := decide_eq_false (by omega)
  have n3 : (kd == 3) = false := by simp; omega
  have m3 : decide (kd = 3) = false := decide_eq_false (by omega)
  have n4 : (kd == 4) = false := by simp; omega
  have m4 : decide (kd = 4) = false := decide_eq_false (by omega)
  obtain ⟨⟨x0, x1, x2, x3, x4, x5⟩, hb, hlt⟩ := op_box W kd a b N A S l c n sc _ rfl
  have HB := Lib.hid hb
  have HLT := Lib.hid hlt
  have HC3 := Lib.hid x3
  have HC4 := Lib.hid x4
  obtain ⟨X, hX⟩ : ∃ X : Option Mat ⊕ Int, (.inr 0) = X := ⟨_, rfl⟩
  rw [hX]
  have HK := Lib.hid (show RetDo B p bm v m lim L (.inr 0) W (.returned (.tuple #[.int .i64 0, .int .i64 0])) (W.alloc (.cells #[.int .i64 kd, .int .i64 a, .int .i64 b, .int .i64 N, .slice A l c, .slice S n sc] 33)) from ⟨v, L, 0, 0, rfl, h.below (zboxed W _), (zboxed W _).mono h.le, (Sd.refl p bm v W).below (zboxed W _), rfl, rfl, rfl⟩)
  have hmf : ∀ (fn : Fn) (first cap : Array Value) (w : World), (Instr.makeFunc fn first cap).run Tryd.prog w = .ok (.func fn first cap) w := fun _ _ _ _ => rfl
  have HX := Lib.hid hX
  clear hb hX h hk
  go_enter Tryd.func10, Tryd.ntmps10
  go_wp2_with fail
  go_ret2
  rw [← HX.out]; exact HK.out
theorem does_any {o : Opr} (h0 : 0 < m) (h7 : m ≤ 7) (hL : L.length ≤ 100000) (h : LTab B p bm v m lim L L W) (ho : OpIn W o) (ht : ∀ W', Below B W W' → Tabs W') :
    Calls Tryd.prog 10 #[.pointer (some ⟨p, 0, none⟩), .agg o.cells.toArray] W (RetDo B p bm v m lim L (want m L o) W) := by
  obtain ⟨kd, a, b, N, A, l, c, f, S, n, sc, fs⟩ := o
  have hz := zarg_of (N := N) ho.mc ho.mm ho.z
  have hn := ho.sm
  have hS := ho.s
  unfold want
  dsimp only at *
  by_cases k0 : kd = 0
  · rw [if_pos k0]; subst k0; exact does_0 h0 h7 hL h hz hn hS ht
  rw [if_neg k0]
  by_cases k1 : kd = 1
  · rw [if_pos k1]; subst k1; exact does_1 h0 h7 hL h hz hn hS ht
  rw [if_neg k1]
  by_cases k2 : kd = 2
  · rw [if_pos k2]; subst k2; exact does_2 h0 h7 hL h hz hn hS ht
  rw [if_neg k2]
  by_cases k3 : kd = 3
  · rw [if_pos k3]; subst k3; exact does_3 h0 h7 hL h hz hn hS ht
  rw [if_neg k3]
  by_cases k4 : kd = 4
  · rw [if_pos k4]; subst k4; exact does_4 h0 h7 hL h hz hn hS ht
  rw [if_neg k4]
  exact does_5 ⟨k0, k1, k2, k3, k4⟩ h0 h7 hL h hz hn hS ht
end
end Go.Proofs.YtlkbapcienjdcaaDoor
