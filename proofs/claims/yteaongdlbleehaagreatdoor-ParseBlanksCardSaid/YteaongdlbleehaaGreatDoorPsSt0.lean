/- The parse layer: words for a statement that is read. -/
import Derived.Test.YteaongdlbleehaaGreatDoorGPsEx
import Derived.Test.YteaongdlbleehaaGreatDoorGTrNum
namespace Go.Proofs.YteaongdlbleehaaGreatDoor
open Go.RowKit
/-- A statement's box, empty. -/
abbrev z6 : Array Value := #[.string ⟨#[]⟩, .string ⟨#[]⟩, .slice none 0 0, .slice none 0 0, .slice none 0 0, .int .i64 0]
/-- Blocks behind the two boxes of a method. -/
abbrev NewR (w W : World) (q : Nat) : Prop := w.heap.size + 2 ≤ q ∧ q < W.heap.size
/-- What a method that reads a statement tells. -/
def RetS (B b len : Nat) (M : Value) (k : Nat) (r : PS × St) (w : World) (e : Ending) (w' : World) : Prop :=
  ∃ n A m c A2 m2 c2 A3 m3 c3, e = .returned (stV r.2.op r.2.nm (.slice A m c) (.slice A2 m2 c2) (.slice A3 m3 c3) r.2.a) ∧ Par B b len M k 0 r.1 w' ∧ Pd b w w' ∧ In64 r.2.a ∧
    ExR (fun q => w.heap.size ≤ q ∧ q < w'.heap.size) n w' r.2.e (.slice A m c) ∧ StR (fun q => w.heap.size ≤ q ∧ q < w'.heap.size) n w' r.2.A (.slice A2 m2 c2) ∧ StR (fun q => w.heap.size ≤ q ∧ q < w'.heap.size) n w' r.2.B (.slice A3 m3 c3)
/-- What block tells. -/
def RetB (B b len : Nat) (M : Value) (k : Nat) (r : PS × List St) (w : World) (e : Ending) (w' : World) : Prop :=
  ∃ n A m c, e = .returned (.slice A m c) ∧ Par B b len M k 0 r.1 w' ∧ Pd b w w' ∧ StR (fun q => w.heap.size ≤ q ∧ q < w'.heap.size) n w' r.2 (.slice A m c)
/-- How many blocks it may stand in. -/
def KOK (k : Nat) (s : PS) : Prop := k ≤ 17 ∧ (s.ts ≠ [] → k ≤ 16)
def BlkC (B b len : Nat) (M : Value) (k : Nat) (blk : PS → PS × List St) : Prop := ∀ s w, Par B b len M k 0 s w → KOK k s → Calls Tryz.prog 52 #[.pointer (some ⟨b, 0, none⟩)] w (RetB B b len M k (blk s) w)
/-- While a method goes: its two boxes. -/
structure SM (B b len : Nat) (M : Value) (k : Nat) (w : World) (cs : Array Value) (s : PS) (W : World) : Prop where
  par : Par B b len M k 0 s W
  pd : Pd b w W
  t : Blk W w.heap.size 116 cs
  z : Blk W (w.heap.size + 1) 116 z6
  hb : b < w.heap.size
section
variable {B b len k n : Nat} {M : Value} {s s' : PS} {w W W' : World} {cs : Array Value}
theorem SM.new (h : Par B b len M k 0 s w) (cs : Array Value) : SM B b len M k w cs s ((w.alloc (.cells cs 116)).alloc (.cells z6 116)) := by
  have e := World.size_alloc w (.cells cs 116)
  exact ⟨(h.alloc _).alloc _, ((Pd.refl b w).alloc _).alloc _, (Blk.new w _ cs).below ((Below.refl _ _).alloc (Nat.le_refl _) _) (by rw [e]; exact Nat.lt_succ_self _), by rw [← e]; exact Blk.new _ _ _, h.lt⟩
theorem SM.step (h : SM B b len M k w cs s W) (hp : Par B b len M k 0 s' W') (hd : Pd b W W') : SM B b len M k w cs s' W' :=
  ⟨hp, h.pd.trans hd, hd.blk h.t (Nat.ne_of_gt h.hb), hd.blk h.z (Nat.ne_of_gt (Nat.lt_succ_of_lt h.hb)), h.hb⟩
theorem SM.below (h : SM B b len M k w cs s W) (hb : Below W.heap.size W W') : SM B b len M k w cs s W' := h.step (h.par.below hb) (Pd.of_below hb b)
theorem SM.alloc (h : SM B b len M k w cs s W) (o : Obj) : SM B b len M k w cs s (W.alloc o) := h.below ((Below.refl _ _).alloc (Nat.le_refl _) o)
theorem SM.set (h : SM B b len M k w cs s W) (i : Nat) (v : Value) : SM B b len M k w (cs.setIfInBounds i v) s (W.setCell ⟨w.heap.size, i, none⟩ v) :=
  ⟨h.par.far (p := ⟨w.heap.size, i, none⟩) (Nat.ne_of_lt h.hb) (Nat.le_trans h.par.lo (Nat.le_of_lt h.hb)) _, h.pd.fresh (p := ⟨w.heap.size, i, none⟩) (Nat.le_refl _) _, h.t.set_ i v, h.z.far (p := ⟨w.heap.size, i, none⟩) (Nat.succ_ne_self _) _, h.hb⟩
theorem SM.size (h : SM B b len M k w cs s W) : w.heap.size + 2 ≤ W.heap.size := h.z.lt
theorem ExR.new_pd {l : List Ex} {v : Value} (h : ExR (NewR w W) n W l v) (hd : Pd b W W') (hb : b < w.heap.size) : ExR (NewR w W') n W' l v := (h.kept fun q hq => hd.block q hq.2 (by have := hq.1; omega)).wide fun q hq => ⟨hq.1, Nat.lt_of_lt_of_le hq.2 hd.size⟩
theorem StR.new_pd {l : List St} {v : Value} (h : StR (NewR w W) n W l v) (hd : Pd b W W') (hb : b < w.heap.size) : StR (NewR w W') n W' l v := (h.kept fun q hq => hd.block q hq.2 (by have := hq.1; omega)).wide fun q hq => ⟨hq.1, Nat.lt_of_lt_of_le hq.2 hd.size⟩
theorem ExR.new_below {l : List Ex} {v : Value} (h : ExR (NewR w W) n W l v) (hb : Below W.heap.size W W') : ExR (NewR w W') n W' l v := (h.below hb fun _ hq => hq.2).wide fun _ hq => ⟨hq.1, Nat.lt_of_lt_of_le hq.2 hb.size⟩
theorem ExR.new_set {l : List Ex} {v : Value} (h : ExR (NewR w W) n W l v) (i : Nat) (u : Value) : ExR (NewR w (W.setCell ⟨w.heap.size, i, none⟩ u)) n (W.setCell ⟨w.heap.size, i, none⟩ u) l v := (h.kept fun q hq => Below.heap_setCell _ _ _ _ (by have := hq.1; show q ≠ w.heap.size; omega)).wide fun q hq => ⟨hq.1, by simpa [World.setCell] using hq.2⟩
theorem StR.new_set {l : List St} {v : Value} (h : StR (NewR w W) n W l v) (i : Nat) (u : Value) : StR (NewR w (W.setCell ⟨w.heap.size, i, none⟩ u)) n (W.setCell ⟨w.heap.size, i, none⟩ u) l v := (h.kept fun q hq => Below.heap_setCell _ _ _ _ (by have := hq.1; show q ≠ w.heap.size; omega)).wide fun q hq => ⟨hq.1, by simpa [World.setCell] using hq.2⟩
theorem str_nil {P : Nat → Prop} : StR P (n + 1) w [] (.slice none 0 0) := ⟨none, 0, rfl, Nat.le_refl _, by simp, fun i x h => by simp at h⟩
theorem six_kept {g : Nat} (a c e f h i : Value) : (∀ x, x ≠ g → ((((((w.setCell ⟨g, 0, none⟩ a).setCell ⟨g, 1, none⟩ c).setCell ⟨g, 2, none⟩ e).setCell ⟨g, 3, none⟩ f).setCell ⟨g, 4, none⟩ h).setCell ⟨g, 5, none⟩ i).heap[x]? = w.heap[x]?) ∧ ((((((w.setCell ⟨g, 0, none⟩ a).setCell ⟨g, 1, none⟩ c).setCell ⟨g, 2, none⟩ e).setCell ⟨g, 3, none⟩ f).setCell ⟨g, 4, none⟩ h).setCell ⟨g, 5, none⟩ i).heap.size = w.heap.size := by
  refine ⟨fun x hx => ?_, by simp [World.setCell]⟩
  rw [Below.heap_setCell _ _ _ _ hx, Below.heap_setCell _ _ _ _ hx, Below.heap_setCell _ _ _ _ hx, Below.heap_setCell _ _ _ _ hx, Below.heap_setCell _ _ _ _ hx, Below.heap_setCell _ _ _ _ hx]
/-- The world behind the stores of a result. -/
abbrev put6 (W : World) (g : Nat) (a c e f h i : Value) : World := (((((W.setCell ⟨g, 0, none⟩ a).setCell ⟨g, 1, none⟩ c).setCell ⟨g, 2, none⟩ e).setCell ⟨g, 3, none⟩ f).setCell ⟨g, 4, none⟩ h).setCell ⟨g, 5, none⟩ i
/-- What is known behind them. -/
structure Fin6 (B b len : Nat) (M : Value) (k : Nat) (w : World) (s : PS) (F : World) (a c e f h i : Value) : Prop where
  par : Par B b len M k 0 s F
  pd : Pd b w F
  blk : Blk F (w.heap.size + 1) 116 #[a, c, e, f, h, i]
theorem SM.fin (h : SM B b len M k w cs s W) (a c e f x i : Value) : Fin6 B b len M k w s (put6 W (w.heap.size + 1) a c e f x i) a c e f x i := by
  have hb : b ≠ w.heap.size + 1 := Nat.ne_of_lt (Nat.lt_succ_of_lt h.hb)
  have hB : B ≤ w.heap.size + 1 := Nat.le_trans h.par.lo (Nat.le_of_lt (Nat.lt_succ_of_lt h.hb))
  have hw : w.heap.size ≤ w.heap.size + 1 := Nat.le_succ _
  exact ⟨(((((h.par.far (p := ⟨w.heap.size + 1, 0, none⟩) hb hB _).far (p := ⟨w.heap.size + 1, 1, none⟩) hb hB _).far (p := ⟨w.heap.size + 1, 2, none⟩) hb hB _).far (p := ⟨w.heap.size + 1, 3, none⟩) hb hB _).far (p := ⟨w.heap.size + 1, 4, none⟩) hb hB _).far (p := ⟨w.heap.size + 1, 5, none⟩) hb hB _,
    (((((h.pd.fresh (p := ⟨w.heap.size + 1, 0, none⟩) hw _).fresh (p := ⟨w.heap.size + 1, 1, none⟩) hw _).fresh (p := ⟨w.heap.size + 1, 2, none⟩) hw _).fresh (p := ⟨w.heap.size + 1, 3, none⟩) hw _).fresh (p := ⟨w.heap.size + 1, 4, none⟩) hw _).fresh (p := ⟨w.heap.size + 1, 5, none⟩) hw _,
    (((((h.z.set_ 0 _).set_ 1 _).set_ 2 _).set_ 3 _).set_ 4 _).set_ 5 _⟩
theorem ExR.fin {l : List Ex} {v : Value} (h : ExR (NewR w W) n W l v) (a c e f x i : Value) : ExR (fun q => w.heap.size ≤ q ∧ q < (put6 W (w.heap.size + 1) a c e f x i).heap.size) n (put6 W (w.heap.size + 1) a c e f x i) l v := by
  have F := six_kept (w := W) (g := w.heap.size + 1) a c e f x i
  exact (h.kept fun q hq => F.1 q (by have := hq.1; omega)).wide fun q hq => ⟨by have := hq.1; omega, by rw [F.2]; exact hq.2⟩
theorem StR.fin {l : List St} {v : Value} (h : StR (NewR w W) n W l v) (a c e f x i : Value) : StR (fun q => w.heap.size ≤ q ∧ q < (put6 W (w.heap.size + 1) a c e f x i).heap.size) n (put6 W (w.heap.size + 1) a c e f x i) l v := by
  have F := six_kept (w := W) (g := w.heap.size + 1) a c e f x i
  exact (h.kept fun q hq => F.1 q (by have := hq.1; omega)).wide fun q hq => ⟨by have := hq.1; omega, by rw [F.2]; exact hq.2⟩
theorem kok_len {s1 : PS} (h : KOK k s) (hl : s1.ts.length ≤ s.ts.length) : KOK k s1 := ⟨h.1, fun q => h.2 (by intro e; rw [e] at hl; exact q (List.length_eq_zero_iff.1 (Nat.le_zero.1 hl)))⟩
theorem dok_zero (s : PS) : DOK 0 s := ⟨Nat.zero_le _, fun _ => Nat.zero_le _⟩
/-- A whole expression. -/
theorem exprE_any (h : Par B b len M k 0 s w) : Calls Tryz.prog 40 #[.pointer (some ⟨b, 0, none⟩)] w (RetX B b len M k 0 (exE len s) w) := pexpr_any (ex_any _ _ (Nat.le_refl _)).2 h (dok_zero s) (Nat.le_refl _)
set_option maxHeartbeats 6400000 in
set_option maxRecDepth 100000 in
theorem end_any (op nm : ByteArray) (A A2 A3 : Option Addr) (m c m2 c2 m3 c3 : Nat) (a : Int) (h : Par B b len M k 0 s w) : Calls Tryz.prog 85 #[.pointer (some ⟨b, 0, none⟩), stV op nm (.slice A m c) (.slice A2 m2 c2) (.slice A3 m3 c3) a] w (RetP B b len M k 0 (stV op nm (.slice A m c) (.slice A2 m2 c2) (.slice A3 m3 c3) a) (expF len [59] s) w) := by
  obtain ⟨W0, hW0⟩ : ∃ W0, W0 = (w.alloc (.cells #[.string op, .string nm, .slice A m c, .slice A2 m2 c2, .slice A3 m3 c3, .int .i64 a] 116)).alloc (.cells z6 116) := ⟨_, rfl⟩
  have S0 : Hid (SM B b len M k w #[.string op, .string nm, .slice A m c, .slice A2 m2 c2, .slice A3 m3 c3, .int .i64 a] s W0) := Lib.hid (by rw [hW0]; exact SM.new h _)
  have HX : Hid (∀ w, Par B b len M k 0 s w → Calls Tryz.prog 51 #[.pointer (some ⟨b, 0, none⟩), .string ⟨#[59]⟩] w (RetP B b len M k 0 (.tuple #[]) (expF len [59] s) w)) := Lib.hid fun w h => expect_any [59] h
  have HW0 := Lib.hid hW0
  clear hW0 h
  go_enter Tryz.func85, Tryz.ntmps85
  go_upto_region 1 with fail
  rw [← HW0.out]
  go_upto_region 2 with (go_at_call 51; have HY := HX.out _ S0.out.par; (with_reducible refine HY.mono ?_); clear HY; rintro e W1 ⟨rfl, hp, hd⟩; have S1 := Lib.hid (S0.out.step hp hd); clear hp hd)
  have t0 := S1.out.t.cell 0
  have t1 := S1.out.t.cell 1
  have t2 := S1.out.t.cell 2
  have t3 := S1.out.t.cell 3
  have t4 := S1.out.t.cell 4
  have t5 := S1.out.t.cell 5
  have r0 := S1.out.z.cell 0
  have r1 := S1.out.z.cell 1
  have r2 := S1.out.z.cell 2
  have r3 := S1.out.z.cell 3
  have r4 := S1.out.z.cell 4
  have r5 := S1.out.z.cell 5
  have rf0 := S1.out.z.frozen 0
  have rf1 := S1.out.z.frozen 1
  have rf2 := S1.out.z.frozen 2
  have rf3 := S1.out.z.frozen 3
  have rf4 := S1.out.z.frozen 4
  have rf5 := S1.out.z.frozen 5
  have rl := S1.out.z.lt
  simp at t0 t1 t2 t3 t4 t5 r0 r1 r2 r3 r4 r5
  go_wp2
  have F := S1.out.fin (.string op) (.string nm) (.slice A m c) (.slice A2 m2 c2) (.slice A3 m3 c3) (.int .i64 a)
  have q0 := F.blk.cell 0
  have q1 := F.blk.cell 1
  have q2 := F.blk.cell 2
  have q3 := F.blk.cell 3
  have q4 := F.blk.cell 4
  have q5 := F.blk.cell 5
  simp at q0 q1 q2 q3 q4 q5
  exact bodyPost_ret (v := stV op nm (.slice A m c) (.slice A2 m2 c2) (.slice A3 m3 c3) a) (by simp [results, Tryz.results85, go_sem, q0, q1, q2, q3, q4, q5]) rfl ⟨rfl, F.par, F.pd⟩
end
end Go.Proofs.YteaongdlbleehaaGreatDoor
