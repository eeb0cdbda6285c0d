/- The contracts of Move and Compact. -/
import Derived.Test.YtlddelnbjihhgaaDoorSMove
import Derived.Test.YtlddelnbjihhgaaDoorSMark
import Derived.Laws.MakeOwn
import Derived.Deep.LoopGhost
namespace Go.Proofs.YtlddelnbjihhgaaDoor
open Go.RowKit
attribute [local go_sem ↓] Go.wp_at_zero Go.wp_at_succ

section
variable {W W1 : World} {ownF ownT : Nat → Prop} {p q limF lim : Nat} {L M : List Nd} {r : Int}
/-- A mover as it is made: its map is new, and so is its box. -/
theorem st_start (hF : Arena W ownF p limF L) (hT : Arena W ownT q lim M) (hd : ∀ i, ownF i → ¬ ownT i) (hr : M.length + L.length ≤ 3999) :
    St ⟨ownF, p, limF, L, q, lim, W.heap.size + 1, W.heap.size, M⟩ ((W.alloc (.map #[] 0)).alloc (.cells #[.pointer (some ⟨p, 0, none⟩), .pointer (some ⟨q, 0, none⟩), .map (some W.heap.size)] 101)) ownT 0 (fun _ => none) M := by
  have hb1 := (Below.refl W.heap.size W).alloc (Nat.le_refl _) (.map #[] 0)
  have hb2 := (Below.refl _ (W.alloc (.map #[] 0))).alloc (Nat.le_refl _) (.cells #[.pointer (some ⟨p, 0, none⟩), .pointer (some ⟨q, 0, none⟩), .map (some W.heap.size)] 101)
  have hm := intM_new W
  have e : (W.alloc (.map #[] 0)).heap.size = W.heap.size + 1 := World.size_alloc _ _
  have hk := Blk.new_ e 101 #[.pointer (some ⟨p, 0, none⟩), .pointer (some ⟨q, 0, none⟩), .map (some W.heap.size)]
  refine ⟨(hF.below hb1).below hb2, (hT.below hb1).below hb2, hk, hm.below hb2 hm.lt, hd, fun h => ?_, fun h => ?_, fun h => ?_, fun k x h => (by cases h), came_start M, hr⟩
  · exact Nat.lt_irrefl _ (hF.old _ h)
  · exact Nat.lt_irrefl _ (hT.old _ h)
  · have h : W.heap.size + 1 < W.heap.size := hT.old _ h
    omega
theorem st_low (o : Obj) (o2 : Obj) : Below W.heap.size W ((W.alloc o).alloc o2) := ((Below.refl W.heap.size W).alloc (Nat.le_refl _) o).alloc (by simp) o2
def RetMove (ownT : Nat → Prop) (q lim : Nat) (L M : List Nd) (f : Int) (w : World) (e : Ending) (w' : World) : Prop :=
  ∃ M1 y c, mvP lim L f M = (M1, y, c) ∧ Only ownT w w' ∧
    ((c = 0 ∧ e = .returned (.tuple #[.int .i64 y, .nilIface]) ∧ ∃ ownT1, Arena w' ownT1 q lim M1 ∧ ∀ i, ownT1 i → ownT i ∨ w.heap.size ≤ i) ∨
     (c ≠ 0 ∧ ∃ b v, e = .returned (.tuple #[.int .i64 0, .iface 165 (.pointer (some ⟨b, 0, none⟩))]) ∧ Blk w' b 167 #[.string ⟨#[109, 107]⟩, .int .i64 v, .iface 53 (.int .i64 c)]))
theorem move_no (hF : Arena W ownF p limF L) (hr : hasP L.length r = false) : Calls Tryd.prog 31 #[.pointer (some ⟨p, 0, none⟩), .pointer (some ⟨q, 0, none⟩), .int .i64 r] W (RetW (.tuple #[.int .i64 0, .iface 53 (.int .i64 1)]) W) := by
  have hh := arena_has (r := r) hF
  rw [hr] at hh
  have HH := Lib.hid hh
  clear hF hr hh
  go_enter Tryd.func31, Tryd.ntmps31
  go_wp2_with (first
    | (go_at_call 69; ((with_reducible refine HH.out.mono ?_); rintro e w1 ⟨rfl, rfl⟩)))
  go_ret2
  exact ⟨rfl, rfl⟩
set_option maxRecDepth 100000 in
theorem move_yes (hF : Arena W ownF p limF L) (hT : Arena W ownT q lim M) (hd : ∀ i, ownF i → ¬ ownT i) (hr : M.length + L.length ≤ 3999) (hf : hasP L.length r = true) :
    Calls Tryd.prog 31 #[.pointer (some ⟨p, 0, none⟩), .pointer (some ⟨q, 0, none⟩), .int .i64 r] W (RetMove ownT q lim L M r W) := by
  have hh := arena_has (r := r) hF
  rw [hf] at hh
  have HH := Lib.hid hh
  have hmm := @run_makeMap Tryd.prog
  have HS := Lib.hid (st_start hF hT hd hr)
  have HK := Lib.hid (move_all (C := ⟨ownF, p, limF, L, q, lim, W.heap.size + 1, W.heap.size, M⟩) hF.right r _ _ _ _ _ HS.out (by have := cost_lt hF.right r; unfold maxLen; dsimp only; omega))
  have HL := Lib.hid (st_low (W := W) (.map #[] 0) (.cells #[.pointer (some ⟨p, 0, none⟩), .pointer (some ⟨q, 0, none⟩), .map (some W.heap.size)] 101))
  clear hF hT hd hr hf hh
  go_enter Tryd.func31, Tryd.ntmps31
  go_wp2_with (first
    | (go_at_call 69; ((with_reducible refine HH.out.mono ?_); rintro e w1 ⟨rfl, rfl⟩))
    | (go_at_call 70; ((with_reducible refine HK.out.mono ?_); rintro e w2 ⟨M1, y, c, hm, ho, (⟨rfl, rfl, own1, n1, g1, s1, -, v1⟩ | ⟨hc, b, v, rfl, hk⟩)⟩)))
  · go_ret2
    exact ⟨M1, y, 0, hm, (Only.of_below HL.out _).trans ho fun i hi => hi.imp id fun e => by rw [e]; exact Nat.le_refl _, .inl ⟨rfl, rfl, own1, s1.dst, fun i hi => (v1 i hi).imp id fun h => Nat.le_trans HL.out.size h⟩⟩
  · go_ret2
    exact ⟨M1, y, c, hm, (Only.of_below HL.out _).trans ho fun i hi => hi.imp id fun e => by rw [e]; exact Nat.le_refl _, .inr ⟨hc, b, v, rfl, hk⟩⟩
end
/-- The cells of the roots' refs: those that were told, and noughts. -/
def intsR (m : Nat) (R : List Int) : Array Value := ((List.range m).map fun k => Value.int .i64 (R.getD k 0)).toArray
theorem intsR_at {m k : Nat} (R : List Int) (h : k < m) : (intsR m R)[k]? = some (.int .i64 (R.getD k 0)) := by
  unfold intsR
  rw [List.getElem?_toArray, List.getElem?_map, List.getElem?_range h]
  rfl
theorem intsR_size (m : Nat) (R : List Int) : (intsR m R).size = m := by unfold intsR; simp
theorem intsR_put {m : Nat} {R : List Int} (y : Int) (h : R.length < m) : (intsR m R).setIfInBounds R.length (.int .i64 y) = intsR m (R ++ [y]) := by
  apply Array.ext_getElem?
  intro i
  rw [Array.getElem?_setIfInBounds]
  by_cases hi : i < m
  · rw [intsR_at _ hi, intsR_at _ hi]
    by_cases e : R.length = i
    · subst e
      rw [if_pos rfl, if_pos (by rw [intsR_size]; exact h)]
      simp [List.getD_eq_getElem?_getD]
    · rw [if_neg e]
      rcases Nat.lt_or_ge i R.length with hl | hl
      · rw [List.getD_eq_getElem?_getD, List.getD_eq_getElem?_getD, List.getElem?_append_left hl]
      · rw [List.getD_eq_getElem?_getD, List.getD_eq_getElem?_getD, List.getElem?_eq_none hl, List.getElem?_eq_none (by simp; omega)]
  · have e1 : (intsR m (R ++ [y]))[i]? = none := Array.getElem?_eq_none (by rw [intsR_size]; omega)
    have e2 : (intsR m R)[i]? = none := Array.getElem?_eq_none (by rw [intsR_size]; omega)
    rw [e1, e2, if_neg (by omega)]
theorem made_ints (n : Nat) (hn : n ≤ 4000) : ∀ w, (Instr.makeSlice 22 (.int .i64 (n : Int)) (.int .i64 (n : Int))).run Tryd.prog w = .ok (.slice (some ⟨w.heap.size, 0, none⟩) n n) (w.alloc (.cells (intsR n []) 3)) := by
  have hinfo : (Tryd.prog.info? 3).map (fun i => (i.zero, i.size, i.bytes)) = some (some (.int .i64 0), 1, 8) := by kernel_rfl
  obtain ⟨i0, hi, hz0, hz1, hz2⟩ := info_parts hinfo
  have hcs : madeCells #[.int .i64 0] (n * 1) = intsR n [] := by
    unfold madeCells intsR
    apply Array.ext
    · simp
    · intro i h1 h2
      simp [Nat.mod_one]
  intro w
  have := run_makeSlice (P := Tryd.prog) w 22 3 i0 (.int .i64 0) Tryd.underlying22 hi hz0 .i64 .i64 (n : Int) (n : Int) (by omega) (Int.le_refl _) (by rw [hz1]; omega) (by rw [hz2]; omega) (by omega)
  rw [hz1] at this
  rw [← hcs]
  simpa [Value.cells] using this
theorem ints_of_row {W : World} {g m : Nat} {R : List Int} (h : Blk W g 3 (intsR m R)) : Ints W (some ⟨g, 0, none⟩) m fun k => R.getD k 0 := fun _ =>
  ⟨g, 0, rfl, h.lt, fun j hj => by rw [Nat.zero_add]; exact (h.cell j).trans (intsR_at R hj)⟩
/-- While roots are moved. -/
structure Cp (w : World) (C : Cx) (f : Nat → Int) (m rg i : Nat) (ownT : Nat → Prop) (n : Nat) (g : Int → Option Int) (M : List Nd) (R : List Int) (W : World) : Prop where
  st : St C W ownT n g M
  row : Blk W rg 3 (intsR m R)
  cmp : cmpP C.lim C.L f i = (M, R, 0)
  cost : n ≤ i * 4096
  low : Below w.heap.size w W
  new : ∀ i, ownT i → w.heap.size ≤ i
  newM : w.heap.size ≤ C.bm
  newR : w.heap.size ≤ rg
  far : ¬ ownT rg
  farF : ¬ C.ownF rg
section
variable {C : Cx} {w W W1 : World} {f : Nat → Int} {m rg i n n1 : Nat} {ownT ownT1 : Nat → Prop} {g g1 : Int → Option Int} {M M1 : List Nd} {R : List Int} {y : Int}
theorem St.else_ (h : St C W ownT n g M) {rg : Nat} (ho : Only (fun i => i = rg) W W1) (h1 : ¬ ownT rg) (h2 : ¬ C.ownF rg) (h3 : C.mb ≠ rg) (h4 : C.bm ≠ rg) : St C W1 ownT n g M :=
  ⟨h.src.only ho fun _ hi e => h2 (e ▸ hi), h.dst.only ho fun _ hi e => h1 (e ▸ hi), ho.blk h.box h3, h.map.only ho h4, h.dF, h.dFm, h.dTm, h.dTb, h.sound, h.came, h.room⟩
theorem Cp.next (h : Cp w C f m rg i ownT n g M R W) (hs : St C W1 ownT1 n1 g1 M1) (ho : Only (fun i => ownT i ∨ i = C.bm) W W1) (hw : ∀ i, ownT1 i → ownT i ∨ W.heap.size ≤ i) (hm : mvP C.lim C.L (f i) M = (M1, y, 0)) (hn : n1 ≤ n + costP C.L (f i)) (him : i < m) :
    Blk W1 rg 3 (intsR m R) ∧ Cp w C f m rg (i + 1) ownT1 n1 g1 M1 (R ++ [y]) (W1.setCell ⟨rg, i, none⟩ (.int .i64 y)) := by
  have hrow : Blk W1 rg 3 (intsR m R) := ho.blk h.row fun e => e.elim h.far fun e => ne_map h.st.map h.row e
  have hl := (cmp_all h.st.rightF h.cmp).2.1
  have hf1 : ¬ ownT1 rg := fun e => (hw _ e).elim h.far fun hh => by have := h.row.lt; omega
  have ho2 : Only (fun i => i = rg) W1 (W1.setCell ⟨rg, i, none⟩ (.int .i64 y)) := Only.of_grown (grown_set W1 ⟨rg, i, none⟩ _) (own := fun i => i = rg) fun r e => by simpa using e.symm
  have hlow : Below w.heap.size w W1 := h.low.trans (ho.below h.low.size fun j hj => hj.elim (h.new j) fun e => by rw [e]; exact h.newM)
  refine ⟨hrow, hs.else_ ho2 hf1 h.farF (Blk.ne_ hs.box hrow (by decide)) (fun e => ne_map hs.map hrow e.symm), ?_, cmp_ok h.cmp hm, ?_, hlow.trans (ho2.below hlow.size fun j hj => by rw [hj]; exact h.newR), fun j hj => (hw j hj).elim (h.new j) fun hh => Nat.le_trans h.low.size hh, h.newM, h.newR, hf1, h.farF⟩
  · have := hrow.set_ i (.int .i64 y)
    rw [← hl, intsR_put y (by omega)] at this
    rw [← hl]
    exact this
  · have := cost_lt h.st.rightF (f i)
    have := h.cost
    omega
theorem cp_start {w w1 : World} {own : Nat → Prop} {p limF lim : Nat} {L : List Nd} (f : Nat → Int) (m : Nat) (hF : Arena w own p limF L) (hT : Arena w1 (fun i => i = w.heap.size) w.heap.size lim []) (hb : Below w.heap.size w w1) (hlen : L.length ≤ 100) :
    Cp w ⟨own, p, limF, L, w.heap.size, lim, w1.heap.size + 1, w1.heap.size, []⟩ f m (w1.heap.size + 1 + 1) 0 (fun i => i = w.heap.size) 0 (fun _ => none) [] [] (((w1.alloc (.map #[] 0)).alloc (.cells #[.pointer (some ⟨p, 0, none⟩), .pointer (some ⟨w.heap.size, 0, none⟩), .map (some w1.heap.size)] 101)).alloc (.cells (intsR m []) 3)) := by
  have hs := st_start (hF.below hb) hT (fun i hi e => by have := hF.old i hi; omega) (by simp; omega)
  have e2 : ((w1.alloc (.map #[] 0)).alloc (.cells #[.pointer (some ⟨p, 0, none⟩), .pointer (some ⟨w.heap.size, 0, none⟩), .map (some w1.heap.size)] 101)).heap.size = w1.heap.size + 1 + 1 := by simp
  have hl := hb.size
  have hlow := (hb.trans ((st_low (W := w1) (.map #[] 0) (.cells #[.pointer (some ⟨p, 0, none⟩), .pointer (some ⟨w.heap.size, 0, none⟩), .map (some w1.heap.size)] 101)).mono hl)).alloc (by simp; omega) (.cells (intsR m []) 3)
  have hlt := hT.old _ rfl
  refine ⟨hs.below ((Below.refl _ _).alloc (Nat.le_refl _) _), Blk.new_ e2 _ _, rfl, by omega, hlow, fun i hi => Nat.le_of_eq hi.symm, hl, by omega, fun h => ?_, fun h => ?_⟩
  · have h : w1.heap.size + 1 + 1 = w.heap.size := h
    omega
  · have h : w1.heap.size + 1 + 1 < w.heap.size := hF.old _ h
    omega
theorem Cp.slot (h : Cp w C f m rg i ownT n g M R W) (him : i < m) : W.cell? ⟨rg, i, none⟩ = some (.int .i64 (R.getD i 0)) := (h.row.cell i).trans (intsR_at R him)
end
def RetComp (lim m : Nat) (M : List Nd) (R : List Int) (w : World) (e : Ending) (w' : World) : Prop :=
  ∃ q rg, e = .returned (.tuple #[.pointer (some ⟨q, 0, none⟩), .slice (some ⟨rg, 0, none⟩) m m, .nilIface]) ∧ Below w.heap.size w w' ∧ ∃ ownT : Nat → Prop, Arena w' ownT q lim M ∧ (∀ i, ownT i → w.heap.size ≤ i) ∧ Blk w' rg 3 (intsR m R) ∧ w.heap.size ≤ rg ∧ ¬ ownT rg
def RetCompF (c : Int) (w : World) (e : Ending) (w' : World) : Prop :=
  ∃ b v, e = .returned (.tuple #[.pointer none, .slice none 0 0, .iface 165 (.pointer (some ⟨b, 0, none⟩))]) ∧ Below w.heap.size w w' ∧ Blk w' b 167 #[.string ⟨#[109, 107]⟩, .int .i64 v, .iface 53 (.int .i64 c)]
section
variable {W : World} {own : Nat → Prop} {p limF : Nat} {L : List Nd} {A : Option Addr} {m c i0 : Nat} {f : Nat → Int}
set_option maxRecDepth 100000 in
theorem comp_no (hF : Arena W own p limF L) (hI : Ints W A m f) (_ : m ≤ 30) (h0 : i0 < m) (hno : hasP L.length (f i0) = false) (hyes : ∀ j, j < i0 → hasP L.length (f j) = true) (l : Int) :
    Calls Tryd.prog 27 #[.pointer (some ⟨p, 0, none⟩), .slice A m c, .int .i64 l] W (RetW (.tuple #[.pointer none, .slice none 0 0, .iface 53 (.int .i64 1)]) W) := by
  have HF := Lib.hid hF
  have HI := Lib.hid hI
  have HNo := Lib.hid hno
  have HYes := Lib.hid hyes
  have H0 := Lib.hid h0
  clear hF hI hno hyes h0
  go_enter Tryd.func27, Tryd.ntmps27
  go_wp2_with fail
  go_loopg [19] m (fun gk t19 wr => ∃ i : Nat, i + gk = m ∧ t19 = .int .i64 (i : Int) ∧ wr = W ∧ i ≤ i0)
  case atStart => exact ⟨0, by omega, rfl, rfl, Nat.zero_le _⟩
  case round =>
    rename Nat => g0
    obtain ⟨i, hi, rfl, hw, hle⟩ := hrel
    subst hw
    have HI2 := Lib.hid hi
    have him : i < m := by have := H0.out; omega
    obtain ⟨b, off, x, hA, hblt, hf, k0⟩ := HI.out.at_ him
    have hh := arena_has (r := x) HF.out
    subst hA
    clear hi
    by_cases he : i = i0
    · subst he
      rw [← hf, HNo.out] at hh
      have HH := Lib.hid hh
      rw [hf] at HH
      clear hh hf hle
      go_wp2_with (first
        | (go_at_call 69; ((with_reducible refine HH.out.mono ?_); rintro e w1 ⟨rfl, rfl⟩)))
      go_ret3
      exact ⟨rfl, rfl⟩
    · rw [← hf, HYes.out i (by omega)] at hh
      have HH := Lib.hid hh
      rw [hf] at HH
      have HLe := Lib.hid (show i + 1 ≤ i0 by omega)
      clear hh hf hle he
      go_wp2_with (first
        | (go_at_call 69; ((with_reducible refine HH.out.mono ?_); rintro e w1 ⟨rfl, rfl⟩)))
      have hi := HI2.out
      go_roundg (g0 - 1)
      case measure => omega
      case rel => exact ⟨i + 1, by omega, by simp, rfl, HLe.out⟩
def RetComps (lim m : Nat) (x : List Nd × List Int × Int) (w : World) (e : Ending) (w' : World) : Prop := (x.2.2 = 0 ∧ RetComp lim m x.1 x.2.1 w e w') ∨ (x.2.2 ≠ 0 ∧ RetCompF x.2.2 w e w')
set_option maxRecDepth 100000 in
set_option maxHeartbeats 3200000 in
theorem comp_yes (hF : Arena W own p limF L) (hI : Ints W A m f) (hm : m ≤ 30) (hlen : L.length ≤ 100) (hall : ∀ j, j < m → hasP L.length (f j) = true) {l : Int} (hl : -9223372036854775808 ≤ l ∧ l ≤ 9223372036854775807) {lim : Nat} (hlim : l.toNat = lim) :
    Calls Tryd.prog 27 #[.pointer (some ⟨p, 0, none⟩), .slice A m c, .int .i64 l] W (RetComps lim m (cmpP lim L f m) W) := by
  have HF := Lib.hid hF
  have HI := Lib.hid hI
  have HAll := Lib.hid hall
  have hN := new_any l hl W
  rw [hlim] at hN
  have HN := Lib.hid hN
  have hmm := @run_makeMap Tryd.prog
  have hmk := made_ints m (by omega)
  clear hF hI hall hN hl hlim
  go_enter Tryd.func27, Tryd.ntmps27
  go_wp2_with fail
  go_loopg [19] m (fun gk t19 wr => ∃ i : Nat, i + gk = m ∧ t19 = .int .i64 (i : Int) ∧ wr = W)
  case atStart => exact ⟨0, by omega, rfl, rfl⟩
  case round =>
    rename Nat => g0
    obtain ⟨i, hi, rfl, hw⟩ := hrel
    subst hw
    have HI2 := Lib.hid hi
    clear hi
    by_cases him : i < m
    · obtain ⟨b, off, x, hA, hblt, hf, k0⟩ := HI.out.at_ him
      have hh := arena_has (r := x) HF.out
      rw [← hf, HAll.out i him] at hh
      have HH := Lib.hid hh
      rw [hf] at HH
      subst hA
      clear hh hf
      go_wp2_with (first
        | (go_at_call 69; ((with_reducible refine HH.out.mono ?_); rintro e w1 ⟨rfl, rfl⟩)))
      have hi := HI2.out
      go_roundg (g0 - 1)
      case measure => omega
      case rel => exact ⟨i + 1, by omega, by simp, rfl⟩
    · have hie : m = i := by have := HI2.out; omega
      subst hie
      clear HI2 him
      go_wp2_with (first
        | (go_at_call 62; ((with_reducible refine HN.out.mono ?_); rintro e w1 ⟨rfl, hA1, hb1⟩); have HA1 := Lib.hid hA1; have HB1 := Lib.hid hb1; clear hA1 hb1))
      have hc0 := cp_start f m HF.out HA1.out HB1.out hlen
      obtain ⟨C, hC⟩ : ∃ C, (⟨own, p, limF, L, wr.heap.size, lim, w1.heap.size + 1, w1.heap.size, []⟩ : Cx) = C := ⟨_, rfl⟩
      obtain ⟨rg, hrg⟩ : ∃ rg, w1.heap.size + 1 + 1 = rg := ⟨_, rfl⟩
      have e1 : w1.heap.size + 1 = C.mb := by rw [← hC]
      have HCL : Hid (C.L = L) := Lib.hid (by rw [← hC])
      have HCl : Hid (C.lim = lim) := Lib.hid (by rw [← hC])
      rw [hC, hrg] at hc0
      have HC0 := Lib.hid hc0
      rw [hrg, e1]
      obtain ⟨V, hV⟩ : ∃ V, (((w1.alloc (.map #[] 0)).alloc (.cells #[.pointer (some ⟨p, 0, none⟩), .pointer (some ⟨wr.heap.size, 0, none⟩), .map (some w1.heap.size)] 101)).alloc (.cells (intsR m []) 3)) = V := ⟨_, rfl⟩
      rw [hV] at HC0 ⊢
      obtain ⟨wo, hwo⟩ : ∃ wo, wo = wr := ⟨_, rfl⟩
      subst hwo
      clear hc0 hC e1 hV HA1 HB1 hrg hmm hmk HN HAll
      go_loopg [40] m (fun gk t40 wr => ∃ (i : Nat) (ownT : Nat → Prop) (n : Nat) (g : Int → Option Int) (M : List Nd) (R : List Int), i + gk = m ∧ t40 = .int .i64 (i : Int) ∧ Cp wo C f m rg i ownT n g M R wr)
      case atStart => exact ⟨0, _, _, _, _, _, by omega, rfl, HC0.out⟩
      case round =>
        clear HC0
        rename Nat => g1
        obtain ⟨i, ownT, n, g, M, R, hi, rfl, hcp⟩ := hrel
        have HCp := Lib.hid hcp
        have HI2 := Lib.hid hi
        clear hi
        by_cases him : i < m
        · obtain ⟨b, off, x, hA, hblt, hf, k0⟩ := (HI.out.below hcp.low).at_ him
          have HK := Lib.hid (move_all hcp.st.rightF x _ _ _ _ _ hcp.st (by have := cost_lt hcp.st.rightF x; have := hcp.cost; unfold maxLen; omega))
          have HFx := Lib.hid hf
          have hlt0 := hcp.row.lt
          subst hA
          clear hf hcp
          go_wp2_with (first
            | (go_at_call 70; ((with_reducible refine HK.out.mono ?_); rintro e w2 ⟨M1, y, c1, hm1, ho1, (⟨rfl, rfl, own1, n1, g2, s1, l1, v1⟩ | ⟨hc1, b1, z1, rfl, k1⟩)⟩; rw [← HFx.out] at hm1 l1; have hn2 := HCp.out.next s1 ho1 v1 hm1 l1 him; have HN2 := Lib.hid hn2.2; have q0 := (hn2.1.cell i).trans (intsR_at R him); have q1 := hn2.1.frozen i; have q2 := hn2.1.lt; clear hn2 s1 ho1 v1 hm1 l1)))
          · have hi := HI2.out
            go_roundg (g1 - 1)
            case measure => omega
            case rel => exact ⟨i + 1, _, _, _, _, _, by omega, by simp, HN2.out⟩
          · go_ret3
            rw [← HFx.out] at hm1
            have hb := cmp_bad HCp.out.cmp hm1 hc1 him
            rw [HCL.out, HCl.out] at hb
            refine .inr ⟨by rw [hb]; exact hc1, b1, z1, rfl, HCp.out.low.trans (ho1.below HCp.out.low.size fun j hj => hj.elim (HCp.out.new j) fun e => by rw [e]; exact HCp.out.newM), by rw [hb]; exact k1⟩
        · have hie : m = i := by have := HI2.out; omega
          subst hie
          have q0 : wr.cell? ⟨C.mb, 1, none⟩ = some (.pointer (some ⟨C.q, 0, none⟩)) := hcp.st.box.cell 1
          clear hcp
          go_wp2_with fail
          go_ret3
          have hc := HCp.out.cmp
          rw [HCL.out, HCl.out] at hc
          rw [hc]
          have hd := HCp.out.st.dst
          rw [HCl.out] at hd
          exact .inl ⟨rfl, C.q, rg, rfl, HCp.out.low, ownT, hd, HCp.out.new, HCp.out.row, HCp.out.newR, HCp.out.far⟩
end
end Go.Proofs.YtlddelnbjihhgaaDoor
