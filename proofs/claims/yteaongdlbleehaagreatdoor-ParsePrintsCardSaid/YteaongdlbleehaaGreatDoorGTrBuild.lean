/- Put together of: TrBuild, TrText. -/
import Derived.Test.YteaongdlbleehaaGreatDoorGTrPg
import Derived.Lib.OthersKept
import Derived.Lib.FrozenHead2
import Derived.Shelf.Strings.BuilderX
import Derived.Shelf.RegionOpenPlain
import Derived.Lib.Strings
import Derived.Lib.Walk
import Derived.Lib.Builder
import Derived.Lib.AppendStr
import Derived.Lib.UnsafeStr
import Derived.Laws.Externs
/- The tree layer: the builder within the writer: what is written, and what it is in the end. -/
namespace Go.Proofs.YteaongdlbleehaaGreatDoor
open Go.RowKit
/-- A writer in block b: what it holds. -/
def Wr (b : Nat) (l : Bs) (w : World) : Prop := Lib.IsBuilderF 95 5 b b (Lib.byteCells l) w ∧ (l = [] → ∃ p, w.heap[b]? = some (.cells #[p, .slice none 0 0] 95 (0, 0)))
theorem binfo : (Tryz.prog.info? 93).map (fun i => i.size) = some 2 := by kernel_rfl
theorem uinfo : (Tryz.prog.info? 5).map (fun i => (i.zero, i.size, i.bytes)) = some (some (.int .u8 0), 1, 1) := by kernel_rfl
theorem cellsU8 : Tryz.prog.cellsOf 5 = 1 := by kernel_rfl
theorem empty_of {s : ByteArray} (h : s.size = 0) : s = ByteArray.empty := by
  obtain ⟨⟨l⟩⟩ := s
  have : l.length = 0 := h
  rw [List.length_eq_zero_iff.1 this]
  rfl
theorem list_size_ (s : ByteArray) : s.data.toList.length = s.size := by rw [Array.length_toList]; rfl
theorem liesW : liesAt Tryz.prog Tryz.prog.depth 95 (2 / Tryz.prog.cellsOf 95) 0 93 1 = true := by kernel_rfl
section
variable {b : Nat} {bs : List Value} {w : World}
set_option maxHeartbeats 1000000 in
set_option maxRecDepth 100000 in
/-- copyCheck: behind it the builder bears its own address. -/
theorem copyCheck_any (h : Lib.IsBuilderF 95 5 b b bs w) : Calls Tryz.prog 102 #[.pointer (some ⟨b, 0, none⟩)] w fun e w' => e = .returned (.tuple #[]) ∧ Lib.BuilderAtF 95 5 b b (.pointer (some ⟨b, 0, none⟩)) bs w' ∧ Below b w w' ∧ Lib.OthersKept 5 (some b) w w' ∧ ∀ p v, w.heap[b]? = some (.cells #[p, v] 95 (0, 0)) → w'.heap[b]? = some (.cells #[.pointer (some ⟨b, 0, none⟩), v] 95 (0, 0)) := by
  obtain ⟨j, hj, hjs⟩ := Option.map_eq_some_iff.1 binfo
  rcases h with h | h
  · have h0 := h.cell0
    have hsh := h.shape
    have hfz : w.frozen? ⟨b, 0, none⟩ = false := by
      obtain ⟨_, v, hb, _⟩ := h
      exact Lib.frozen_of_heap hb 0
    have HH := Lib.hid h
    clear h
    go_enter Tryz.func102, Tryz.ntmps102
    go_wp2
    rw [Lib.run_to_unsafe w ⟨b, 0, none⟩ Tryz.underlying90 Tryz.underlying182 hj (by rw [hjs]; decide) hsh (Nat.zero_lt_succ 1)]
    simp only [Result.andThen]
    rw [Oper.upon_value]
    go_wp2
    rw [run_callFunc_extern Tryz.func133 (by kernel_rfl) (by kernel_rfl) (by kernel_rfl) (e := Extern.AbiNoEscape.same) (by kernel_rfl)]
    rw [Lib.run_noEscape]
    simp only [Result.andThen]
    rw [Oper.upon_value]
    go_wp2
    rw [Lib.run_from_unsafe w ⟨b, 0, none⟩ Tryz.underlying182 Tryz.underlying90 hj hsh liesW]
    simp only [Result.andThen]
    rw [Oper.upon_value]
    go_wp2
    go_end0
    exact ⟨rfl, HH.out.used _, (Below.refl b w).setCell (p := ⟨b, 0, none⟩) (Nat.le_refl _) _, (Lib.OthersKept.refl _ _ w).setCell ⟨b, 0, none⟩ rfl _, fun p v hb => by simp [World.setCell, Array.getElem?_modify, hb]⟩
  · have h0 := h.cell0
    have HH := Lib.hid h
    clear h
    go_enter Tryz.func102, Tryz.ntmps102
    go_wp2
    rw [Lib.run_neq_ptr_same w _ Tryz.underlying90 hj]
    go_wp2
    go_end0
    exact ⟨rfl, HH.out, Below.refl b _, Lib.OthersKept.refl _ _ _, fun p v hb => by
      obtain ⟨_, v', hb', _⟩ := HH.out
      rw [hb'] at hb ⊢
      simp at hb
      rw [hb.2]⟩
set_option maxHeartbeats 2000000 in
set_option maxRecDepth 100000 in
/-- WriteString: the text comes behind what there is. -/
theorem write_any (s : ByteArray) (h : Lib.IsBuilderF 95 5 b b bs w) (hlen : bs.length + s.size ≤ 140737488355328) : Calls Tryz.prog 72 #[.pointer (some ⟨b, 0, none⟩), .string s] w fun e w' => e = .returned (.tuple #[.int .i64 s.size, .nilIface]) ∧ Lib.BuilderAtF 95 5 b b (.pointer (some ⟨b, 0, none⟩)) (bs ++ Lib.strCells s) w' ∧ (Below b w w' ∧ Lib.OthersKept 5 (some b) w w') ∧ (∀ p, w.heap[b]? = some (.cells #[p, .slice none 0 0] 95 (0, 0)) → s.size = 0 → ∃ p', w'.heap[b]? = some (.cells #[p', .slice none 0 0] 95 (0, 0))) := by
  obtain ⟨i0, hi, hz0, hz1, hz2⟩ := info_parts uinfo
  have hsz := Lib.hid h
  go_enter Tryz.func72, Tryz.ntmps72
  go_wp2_with (go_at_call 102; refine (copyCheck_any h).mono ?_)
  rintro e w1 ⟨rfl, h1, hb1, hk1, hsame⟩
  have HSame := Lib.hid hsame
  clear hsame
  obtain ⟨hB, v, hbk, hown, hne⟩ := h1
  have c0 : w1.cell? ⟨b, 0, none⟩ = some (.pointer (some ⟨b, 0, none⟩)) := by rw [Lib.cell_of_heap hbk]; rfl
  have c1 : w1.cell? ⟨b, 1, none⟩ = some v := by rw [Lib.cell_of_heap hbk]; rfl
  have hlt : b < w1.heap.size := by
    rcases Nat.lt_or_ge b w1.heap.size with h' | h'
    · exact h'
    · simp [Array.getElem?_eq_none h'] at hbk
  go_wp2_with (at_builtin; refine Lib.wpList_append_own_stringF _ rfl _ _ 91 9 rfl b 5 i0 Tryz.underlying91 Tryz.underlying9 hi hz0 hz1 hz2 _ _ _ rfl hown s rfl ?c3 ?c4 ?c5 ?_)
  case c3 => unfold maxLen; omega
  case c4 => omega
  case c5 => omega
  intro v' w2 hown' hgrow hnil
  have HNil := Lib.hid hnil
  clear hnil
  have hb2 : w2.heap[b]? = some (.cells #[.pointer (some ⟨b, 0, none⟩), v] 95 (0, 0)) := by
    rw [hgrow.block b hlt (fun e => hne e.symm)]
    exact hbk
  have d0 : w2.cell? ⟨b, 0, none⟩ = some (.pointer (some ⟨b, 0, none⟩)) := by rw [Lib.cell_of_heap hb2]; rfl
  have d1 : w2.cell? ⟨b, 1, none⟩ = some v := by rw [Lib.cell_of_heap hb2]; rfl
  have f1 : w2.frozen? ⟨b, 1, none⟩ = false := Lib.frozen_of_heap hb2 1
  obtain ⟨ao, n', cap, rfl⟩ : ∃ ao n' cap, v' = .slice ao n' cap := by
    rcases hown'.2 with ⟨hv, _⟩ | ⟨g, cap, cur, fz, hv, _⟩
    · exact ⟨_, _, _, hv⟩
    · exact ⟨_, _, _, hv⟩
  go_wp2
  go_ret2
  refine ⟨rfl, ?_, ⟨?_, (hk1.grown hgrow (Lib.ownsRowF_kind hown)).setCell ⟨b, 1, none⟩ rfl _⟩, fun p hp hs => ?_⟩
  · exact Lib.BuilderAtF.put (T := 95) (e := 5) hB hb2 (bs' := bs ++ Lib.strCells s) (by simpa [Lib.strCells_length] using hown') (by decide)
  · exact (hb1.grown hgrow (Nat.le_of_lt hlt) (fun k hk => (hown.lt k hk).1)).setCell (p := ⟨b, 1, none⟩) hB _
  · have e1 := HSame.out p _ hp
    rw [hbk] at e1
    simp at e1
    have e2 := HNil.out.2 ⟨e1, empty_of hs⟩
    rw [e2]
    exact ⟨.pointer (some ⟨b, 0, none⟩), by simp [World.setCell, Array.getElem?_modify, hb2]⟩
theorem bcells_app (l r : Bs) : Lib.byteCells (l ++ r) = Lib.byteCells l ++ Lib.byteCells r := by simp [Lib.byteCells]
theorem scells (s : ByteArray) : Lib.strCells s = Lib.byteCells s.data.toList := by simp [Lib.strCells, Lib.byteCells]
/-- What is kept when something is written: all that is no row of bytes, and not the writer. -/
abbrev Kept (b : Nat) (w w' : World) : Prop := Lib.OthersKept 5 (some b) w w'
/-- What a writing call does. -/
def RetWr (b : Nat) (l : Bs) (w : World) (w' : World) : Prop := Wr b l w' ∧ Below b w w' ∧ Kept b w w'
theorem Wr.len {l : Bs} (_ : Wr b l w) : (Lib.byteCells l).length = l.length := Lib.byteCells_length l
theorem write_wr {l : Bs} (s : ByteArray) (h : Wr b l w) (hlen : l.length + s.size ≤ 140737488355328) : Calls Tryz.prog 72 #[.pointer (some ⟨b, 0, none⟩), .string s] w fun e w' => e = .returned (.tuple #[.int .i64 s.size, .nilIface]) ∧ RetWr b (l ++ s.data.toList) w w' := by
  refine (write_any s h.1 (by rw [Lib.byteCells_length]; exact hlen)).mono ?_
  rintro e w' ⟨rfl, h1, h2, h3⟩
  refine ⟨rfl, ⟨.inr (by rw [bcells_app, ← scells]; exact h1), fun e => ?_⟩, h2⟩
  rw [List.append_eq_nil_iff] at e
  obtain ⟨p, hp⟩ := h.2 e.1
  exact h3 p hp (by rw [← list_size_, e.2]; rfl)
set_option maxHeartbeats 1000000 in
set_option maxRecDepth 100000 in
/-- String: what was written. -/
theorem string_wr {l : Bs} (h : Wr b l w) : Calls Tryz.prog 45 #[.pointer (some ⟨b, 0, none⟩)] w fun e w' => e = .returned (.string ⟨l.toArray⟩) ∧ Below b w w' := by
  by_cases h0 : l = []
  · subst h0
    obtain ⟨p, hbk⟩ := h.2 rfl
    have hUS : ∀ (W : World) (q : Option Addr), (Builtin.unsafeString_ #[141, 3] 9 #[.pointer q, .int .i64 0]).run Tryz.prog W = .ok (.string .empty) W := fun W q => Lib.run_unsafeString_none W _ _ _ q
    have c1 : w.drew.cell? ⟨b, 1, none⟩ = some (.slice none 0 0) := by
      have : w.drew.heap[b]? = some (.cells #[p, .slice none 0 0] 95 (0, 0)) := hbk
      rw [Lib.cell_of_heap this]; rfl
    have hSD : (Builtin.unsafeSliceData_ #[91] 141 #[.slice none 0 0]).run Tryz.prog w.drew = .ok (.pointer none) w.drew := rfl
    have HB := Lib.hid (Below.drew (Below.refl b w))
    clear h hbk
    go_enter Tryz.func45, Tryz.ntmps45
    go_wp2
    go_region
    all_goals (go_wp2; go_ret; exact ⟨rfl, HB.out⟩)
  · have hl0 : l.length ≠ 0 := by simpa using h0
    obtain ⟨p, hAt⟩ : ∃ p, Lib.BuilderAtF 95 5 b b p (Lib.byteCells l) w := by
      rcases h.1 with h | h
      · exact ⟨_, h⟩
      · exact ⟨_, h⟩
    obtain ⟨hB, v, hbk, hown, hne⟩ := hAt
    rw [Lib.byteCells_length] at hown
    obtain ⟨g, cap, cur, fz, rfl, hbg, hg, hfz, hnc, hcm, hcs, htake⟩ : ∃ g cap cur fz, v = .slice (some ⟨g, 0, none⟩) l.length cap ∧ b ≤ g ∧ w.heap[g]? = some (.cells cur 5 fz) ∧ fz.2 ≤ l.length * 1 ∧ l.length ≤ cap ∧ cap ≤ maxLen ∧ cur.size = cap * 1 ∧ cur.toList.take (l.length * 1) = Lib.byteCells l := by
      rcases hown.2 with ⟨_, hz⟩ | ⟨g, cap, cur, fz, hv, r⟩
      · exact absurd hz hl0
      · exact ⟨g, cap, cur, fz, hv, r⟩
    have c1 : w.drew.cell? ⟨b, 1, none⟩ = some (.slice (some ⟨g, 0, none⟩) l.length cap) := by
      have : w.drew.heap[b]? = some (.cells #[p, .slice (some ⟨g, 0, none⟩) l.length cap] 95 (0, 0)) := hbk
      rw [Lib.cell_of_heap this]; rfl
    have hSD : (Builtin.unsafeSliceData_ #[91] 141 #[.slice (some ⟨g, 0, none⟩) l.length cap]).run Tryz.prog w.drew = .ok (.pointer (some ⟨g, 0, none⟩)) w.drew :=
      Lib.run_unsafeSliceData_row _ _ _ _ _ _ (by omega)
    have hUS : (Builtin.unsafeString_ #[141, 3] 9 #[.pointer (some ⟨g, 0, none⟩), .int .i64 l.length]).run Tryz.prog w.drew = .ok (.string ⟨l.toArray⟩) (w.drew.freeze ⟨g, 0, none⟩ l.length) := by
      refine Lib.run_unsafeString_row w.drew 141 3 9 5 Tryz.underlying141 cellsU8 g cur.size (by have hg' : w.drew.heap[g]? = some (.cells cur 5 fz) := hg; simp [World.shape?, hg']) l h0 (by omega) (by unfold maxLen at hcm; omega) ?_
      intro j x hx
      have := hown.cells (g := g) rfl j (.int .u8 x.toNat) (by simp [Lib.byteCells, hx])
      exact this
    have HB := Lib.hid (Lib.below_freeze (Below.drew (Below.refl b w)) (p := ⟨g, 0, none⟩) hbg l.length)
    clear h hbk hown
    go_enter Tryz.func45, Tryz.ntmps45
    go_wp2
    go_region
    all_goals (go_wp2; go_ret; exact ⟨rfl, HB.out⟩)
end
end Go.Proofs.YteaongdlbleehaaGreatDoor

/- The tree layer: the writer's texts, indent, ofTwo, opens. -/
namespace Go.Proofs.YteaongdlbleehaaGreatDoor
open Go.RowKit
theorem Blk.keptW {w w' : World} {g b : Nat} {t : TypeId} {cs : Array Value} (h : Blk w g t cs) (hk : Kept b w w') (hg : g ≠ b) (ht : t ≠ 5) : Blk w' g t cs :=
  hk g _ h (fun e => hg (by injection e)) (fun c fz e => ht (by injection e))
theorem Wr.alloc {b : Nat} {l : Bs} {w : World} (h : Wr b l w) (o : Obj) : Wr b l (w.alloc o) := by
  refine ⟨h.1.alloc o, fun e => ?_⟩
  obtain ⟨p, hp⟩ := h.2 e
  exact ⟨p, (Lib.alloc_old w o b (Array.getElem?_eq_some_iff.1 hp).1).trans hp⟩
theorem Wr.lt {b : Nat} {l : Bs} {w : World} (h : Wr b l w) : b < w.heap.size := by
  rcases h.1 with h | h
  · exact h.lt
  · exact h.lt
theorem RetWr.trans {b : Nat} {l l' : Bs} {w w1 w2 : World} (h : RetWr b l w w1) (h2 : RetWr b l' w1 w2) : RetWr b l' w w2 := ⟨h2.1, h.2.1.trans h2.2.1, h.2.2.trans h2.2.2⟩
theorem RetWr.alloc {b : Nat} {l : Bs} {w w1 : World} (h : RetWr b l w w1) (o : Obj) : RetWr b l w (w1.alloc o) := ⟨h.1.alloc o, h.2.1.alloc (Nat.le_of_lt (Nat.lt_of_le_of_lt (Nat.le_refl _) h.1.lt)) o, h.2.2.alloc o⟩
theorem RetWr.refl {b : Nat} {l : Bs} {w : World} (h : Wr b l w) : RetWr b l w w := ⟨h, Below.refl _ _, Lib.OthersKept.refl _ _ _⟩
theorem RetWr.of {b : Nat} {l l' : Bs} {w w1 : World} (h : RetWr b l w w1) (e : l = l') : RetWr b l' w w1 := e ▸ h
/-- Texts, one behind the other. -/
def flat (ss : List ByteArray) : Bs := ss.flatMap (·.data.toList)
theorem flat_take {ss : List ByteArray} {k : Nat} {s : ByteArray} (h : ss[k]? = some s) : flat (ss.take (k + 1)) = flat (ss.take k) ++ s.data.toList := by
  rw [take_one h]; simp [flat]
theorem flat_le {ss : List ByteArray} {k : Nat} {s : ByteArray} (h : ss[k]? = some s) : (flat (ss.take k)).length + s.size ≤ (flat ss).length := by
  have h1 := flat_take h
  have h2 : flat ss = flat (ss.take (k + 1)) ++ flat (ss.drop (k + 1)) := by simp [flat, ← List.flatMap_append]
  rw [h2, h1]
  simp only [List.length_append, list_size_]
  omega
section
variable {b : Nat} {l : Bs} {w : World}
set_option maxHeartbeats 3200000 in
set_option maxRecDepth 100000 in
theorem texts_any (ss : List ByteArray) (bk c : Nat) (hn : ss.length ≤ 1048576) (h : Wr b l w) (hk : Blk w bk 9 (ss.map Value.string).toArray) (hlen : l.length + (flat ss).length ≤ 140737488355328) :
    Calls Tryz.prog 41 #[.pointer (some ⟨b, 0, none⟩), .slice (some ⟨bk, 0, none⟩) ss.length c] w fun e w' => e = .returned (.tuple #[]) ∧ RetWr b (l ++ flat ss) w w' := by
  have hne : bk ≠ b := by
    rintro rfl
    rcases h.1 with h | h
    · obtain ⟨_, v, hb, _⟩ := h
      unfold Blk at hk; rw [hb] at hk; injection hk with e; injection e with _ e; exact absurd e (by decide)
    · obtain ⟨_, v, hb, _⟩ := h
      unfold Blk at hk; rw [hb] at hk; injection hk with e; injection e with _ e; exact absurd e (by decide)
  have HW0 := Lib.hid h
  have HK := Lib.hid hk
  have HNe := Lib.hid hne
  have HLen := Lib.hid hlen
  obtain ⟨m, hm⟩ : ∃ m, ss.length = m := ⟨_, rfl⟩
  have HM := Lib.hid hm
  rw [hm] at hn ⊢
  clear h hk hne hlen hm
  go_enter Tryz.func41, Tryz.ntmps41
  go_wp2
  go_loopw [8] (fun i wr => ∃ k : Nat, i = .int .i64 (k : Int) ∧ k ≤ m ∧ RetWr b (l ++ flat (ss.take k)) w wr) (fun i _ => m - (RowKit.intOf i).toNat)
  case atStart => exact ⟨0, rfl, Nat.zero_le _, RetWr.of (RetWr.refl HW0.out) (by simp [flat])⟩
  case round =>
    obtain ⟨k, rfl, hk, hr⟩ := hrel
    have HR := Lib.hid hr
    clear hr
    by_cases hlt : k < m
    · obtain ⟨s, hs⟩ : ∃ s, ss[k]? = some s := ⟨ss[k]'(by rw [HM.out]; exact hlt), List.getElem?_eq_getElem _⟩
      have x0 := (HK.out.keptW HR.out.2.2 HNe.out (by decide)).cell k
      have e0 : (ss.map Value.string).toArray[k]? = some (.string s) := by simp [hs]
      rw [e0] at x0
      have HC := Lib.hid (write_wr s HR.out.1 (by have := flat_le hs; have := HLen.out; rw [List.length_append]; omega))
      have HS := Lib.hid (flat_take hs)
      clear hs e0
      go_wp2_with (go_at_call 72; with_reducible refine (HC.out).mono ?_; rintro e w1 ⟨rfl, hb⟩; have HB := Lib.hid (HR.out.trans hb); clear hb)
      go_roundw
      case rel => exact ⟨k + 1, by go_num, hlt, by rw [HS.out, ← List.append_assoc]; exact HB.out⟩
      case measure => simp [RowKit.intOf]; omega
    · have he : k = m := by omega
      subst he
      have hT : ss.take k = ss := by rw [← HM.out, List.take_length]
      rw [hT] at HR
      clear hT
      go_wp2_with fail
      go_end0
      exact ⟨rfl, HR.out⟩
theorem texts_new (ss : List ByteArray) (cs : Array Value) (hcs : cs = (ss.map Value.string).toArray) (n : Nat) (hn' : n = ss.length) (r : Bs) (hr : r = flat ss) (hn : ss.length ≤ 100) (h : Wr b l w) (hlen : l.length + r.length ≤ 140737488355328) :
    Calls Tryz.prog 41 #[.pointer (some ⟨b, 0, none⟩), .slice (some ⟨w.heap.size, 0, none⟩) n n] (w.alloc (.cells cs 9)) fun e w' => e = .returned (.tuple #[]) ∧ RetWr b (l ++ r) w w' := by
  subst hcs hn' hr
  exact (texts_any ss w.heap.size ss.length (by omega) (h.alloc _) (Blk.new w _ _) hlen).mono fun e w' ⟨h1, h2⟩ => ⟨h1, ((RetWr.refl h).alloc _).trans h2⟩
theorem texts1 (a1 : ByteArray) (r1 : Bs) (h1 : a1.data.toList = r1) (h : Wr b l w) (hlen : l.length + r1.length ≤ 140737488355328) : Calls Tryz.prog 41 #[.pointer (some ⟨b, 0, none⟩), .slice (some ⟨w.heap.size, 0, none⟩) 1 1] (w.alloc (.cells #[.string a1] 9)) fun e w' => e = .returned (.tuple #[]) ∧ RetWr b (l ++ r1) w w' := by
  subst h1
  exact texts_new [a1] _ rfl 1 rfl _ (by simp [flat]) (by simp) h (by (try simp only [List.length_append]); omega)
theorem texts2 (a1 a2 : ByteArray) (r1 r2 : Bs) (h1 : a1.data.toList = r1) (h2 : a2.data.toList = r2) (h : Wr b l w) (hlen : l.length + r1.length + r2.length ≤ 140737488355328) : Calls Tryz.prog 41 #[.pointer (some ⟨b, 0, none⟩), .slice (some ⟨w.heap.size, 0, none⟩) 2 2] (w.alloc (.cells #[.string a1, .string a2] 9)) fun e w' => e = .returned (.tuple #[]) ∧ RetWr b (l ++ (r1 ++ r2)) w w' := by
  subst h1 h2
  exact texts_new [a1, a2] _ rfl 2 rfl _ (by simp [flat]) (by simp) h (by (try simp only [List.length_append]); omega)
theorem texts3 (a1 a2 a3 : ByteArray) (r1 r2 r3 : Bs) (h1 : a1.data.toList = r1) (h2 : a2.data.toList = r2) (h3 : a3.data.toList = r3) (h : Wr b l w) (hlen : l.length + r1.length + r2.length + r3.length ≤ 140737488355328) : Calls Tryz.prog 41 #[.pointer (some ⟨b, 0, none⟩), .slice (some ⟨w.heap.size, 0, none⟩) 3 3] (w.alloc (.cells #[.string a1, .string a2, .string a3] 9)) fun e w' => e = .returned (.tuple #[]) ∧ RetWr b (l ++ (r1 ++ (r2 ++ r3))) w w' := by
  subst h1 h2 h3
  exact texts_new [a1, a2, a3] _ rfl 3 rfl _ (by simp [flat]) (by simp) h (by (try simp only [List.length_append]); omega)
theorem texts4 (a1 a2 a3 a4 : ByteArray) (r1 r2 r3 r4 : Bs) (h1 : a1.data.toList = r1) (h2 : a2.data.toList = r2) (h3 : a3.data.toList = r3) (h4 : a4.data.toList = r4) (h : Wr b l w) (hlen : l.length + r1.length + r2.length + r3.length + r4.length ≤ 140737488355328) : Calls Tryz.prog 41 #[.pointer (some ⟨b, 0, none⟩), .slice (some ⟨w.heap.size, 0, none⟩) 4 4] (w.alloc (.cells #[.string a1, .string a2, .string a3, .string a4] 9)) fun e w' => e = .returned (.tuple #[]) ∧ RetWr b (l ++ (r1 ++ (r2 ++ (r3 ++ r4)))) w w' := by
  subst h1 h2 h3 h4
  exact texts_new [a1, a2, a3, a4] _ rfl 4 rfl _ (by simp [flat]) (by simp) h (by (try simp only [List.length_append]); omega)
theorem texts5 (a1 a2 a3 a4 a5 : ByteArray) (r1 r2 r3 r4 r5 : Bs) (h1 : a1.data.toList = r1) (h2 : a2.data.toList = r2) (h3 : a3.data.toList = r3) (h4 : a4.data.toList = r4) (h5 : a5.data.toList = r5) (h : Wr b l w) (hlen : l.length + r1.length + r2.length + r3.length + r4.length + r5.length ≤ 140737488355328) : Calls Tryz.prog 41 #[.pointer (some ⟨b, 0, none⟩), .slice (some ⟨w.heap.size, 0, none⟩) 5 5] (w.alloc (.cells #[.string a1, .string a2, .string a3, .string a4, .string a5] 9)) fun e w' => e = .returned (.tuple #[]) ∧ RetWr b (l ++ (r1 ++ (r2 ++ (r3 ++ (r4 ++ r5))))) w w' := by
  subst h1 h2 h3 h4 h5
  exact texts_new [a1, a2, a3, a4, a5] _ rfl 5 rfl _ (by simp [flat]) (by simp) h (by (try simp only [List.length_append]); omega)
set_option maxHeartbeats 3200000 in
set_option maxRecDepth 100000 in
theorem indent_any (d : Nat) (hd : d ≤ 1099511627776) (h : Wr b l w) (hlen : l.length + (ind d).length ≤ 140737488355328) :
    Calls Tryz.prog 75 #[.pointer (some ⟨b, 0, none⟩), .int .i64 (d : Int)] w fun e w' => e = .returned (.tuple #[]) ∧ RetWr b (l ++ ind d) w w' := by
  have HW0 := Lib.hid h
  have hil : ∀ k, (ind k).length = 2 * k := fun k => by
    induction k with
    | zero => rfl
    | succ k ih => simp only [ind, List.length_append, ih, List.length_cons, List.length_nil]; omega
  have his : ∀ k, ind (k + 1) = ind k ++ [32, 32] := fun k => by
    induction k with
    | zero => rfl
    | succ k ih =>
      show [32, 32] ++ ind (k + 1) = ([32, 32] ++ ind k) ++ [32, 32]
      rw [ih, List.append_assoc]
  have HIl := Lib.hid hil
  have HIs := Lib.hid his
  have HLen := Lib.hid hlen
  clear h hil his hlen
  go_enter Tryz.func75, Tryz.ntmps75
  go_wp2
  go_loopw [5] (fun i wr => ∃ k : Nat, i = .int .i64 (k : Int) ∧ k ≤ d ∧ RetWr b (l ++ ind k) w wr) (fun i _ => d - (RowKit.intOf i).toNat)
  case atStart => exact ⟨0, rfl, Nat.zero_le _, RetWr.of (RetWr.refl HW0.out) (by simp [ind])⟩
  case round =>
    obtain ⟨k, rfl, hk, hr⟩ := hrel
    have HR := Lib.hid hr
    clear hr
    by_cases hlt : k < d
    · have HC := Lib.hid (write_wr ⟨#[32, 32]⟩ HR.out.1 (by
        have h1 := HIl.out k
        have h2 := HIl.out d
        have := HLen.out
        rw [List.length_append]
        show l.length + (ind k).length + 2 ≤ _
        omega))
      go_wp2_with (go_at_call 72; with_reducible refine (HC.out).mono ?_; rintro e w1 ⟨rfl, hb⟩; have HB := Lib.hid (HR.out.trans hb); clear hb)
      go_roundw
      case rel => exact ⟨k + 1, by go_num, hlt, by rw [HIs.out, ← List.append_assoc]; exact HB.out⟩
      case measure => simp [RowKit.intOf]; omega
    · have he : k = d := by omega
      subst he
      go_wp2_with fail
      go_end0
      exact ⟨rfl, HR.out⟩
set_option maxHeartbeats 3200000 in
set_option maxRecDepth 100000 in
theorem ofTwo_any (o : ByteArray) (w : World) : Calls Tryz.prog 79 #[.string o] w fun e w' => e = .returned (.bool (ofTwoO o)) ∧ w' = w := by
  have HX : Hid (ofTwoO o = ((o.toList == [43]) || ((o.toList == [45]) || ((o.toList == [42]) || ((o.toList == [47]) || ((o.toList == [61, 61]) || ((o.toList == [33, 61]) || ((o.toList == [60]) || ((o.toList == [60, 61]) || ((o.toList == [62]) || ((o.toList == [62, 61]) || ((o.toList == [38, 38]) || (o.toList == [124, 124])))))))))))) ) := Lib.hid (by simp only [ofTwoO, twos, List.contains_cons, List.contains_nil, Bool.or_false])
  cases h0 : (o.toList == [43])
  · cases h1 : (o.toList == [45])
    · cases h2 : (o.toList == [42])
      · cases h3 : (o.toList == [47])
        · cases h4 : (o.toList == [61, 61])
          · cases h5 : (o.toList == [33, 61])
            · cases h6 : (o.toList == [60])
              · cases h7 : (o.toList == [60, 61])
                · cases h8 : (o.toList == [62])
                  · cases h9 : (o.toList == [62, 61])
                    · cases h10 : (o.toList == [38, 38])
                      · cases h11 : (o.toList == [124, 124])
                        · go_enter Tryz.func79, Tryz.ntmps79
                          go_wp2
                          go_ret
                          exact ⟨ret_bool (by rw [HX.out, h0, h1, h2, h3, h4, h5, h6, h7, h8, h9, h10, h11]; rfl), rfl⟩
                        · go_enter Tryz.func79, Tryz.ntmps79
                          go_wp2
                          go_ret
                          exact ⟨ret_bool (by rw [HX.out, h0, h1, h2, h3, h4, h5, h6, h7, h8, h9, h10, h11]; rfl), rfl⟩
                      · go_enter Tryz.func79, Tryz.ntmps79
                        go_wp2
                        go_ret
                        exact ⟨ret_bool (by rw [HX.out, h0, h1, h2, h3, h4, h5, h6, h7, h8, h9, h10]; rfl), rfl⟩
                    · go_enter Tryz.func79, Tryz.ntmps79
                      go_wp2
                      go_ret
                      exact ⟨ret_bool (by rw [HX.out, h0, h1, h2, h3, h4, h5, h6, h7, h8, h9]; rfl), rfl⟩
                  · go_enter Tryz.func79, Tryz.ntmps79
                    go_wp2
                    go_ret
                    exact ⟨ret_bool (by rw [HX.out, h0, h1, h2, h3, h4, h5, h6, h7, h8]; rfl), rfl⟩
                · go_enter Tryz.func79, Tryz.ntmps79
                  go_wp2
                  go_ret
                  exact ⟨ret_bool (by rw [HX.out, h0, h1, h2, h3, h4, h5, h6, h7]; rfl), rfl⟩
              · go_enter Tryz.func79, Tryz.ntmps79
                go_wp2
                go_ret
                exact ⟨ret_bool (by rw [HX.out, h0, h1, h2, h3, h4, h5, h6]; rfl), rfl⟩
            · go_enter Tryz.func79, Tryz.ntmps79
              go_wp2
              go_ret
              exact ⟨ret_bool (by rw [HX.out, h0, h1, h2, h3, h4, h5]; rfl), rfl⟩
          · go_enter Tryz.func79, Tryz.ntmps79
            go_wp2
            go_ret
            exact ⟨ret_bool (by rw [HX.out, h0, h1, h2, h3, h4]; rfl), rfl⟩
        · go_enter Tryz.func79, Tryz.ntmps79
          go_wp2
          go_ret
          exact ⟨ret_bool (by rw [HX.out, h0, h1, h2, h3]; rfl), rfl⟩
      · go_enter Tryz.func79, Tryz.ntmps79
        go_wp2
        go_ret
        exact ⟨ret_bool (by rw [HX.out, h0, h1, h2]; rfl), rfl⟩
    · go_enter Tryz.func79, Tryz.ntmps79
      go_wp2
      go_ret
      exact ⟨ret_bool (by rw [HX.out, h0, h1]; rfl), rfl⟩
  · go_enter Tryz.func79, Tryz.ntmps79
    go_wp2
    go_ret
    exact ⟨ret_bool (by rw [HX.out, h0]; rfl), rfl⟩
set_option maxHeartbeats 3200000 in
set_option maxRecDepth 100000 in
theorem opens_any (o : ByteArray) (w : World) : Calls Tryz.prog 107 #[.string o] w fun e w' => e = .returned (.bool (opensO o)) ∧ w' = w := by
  obtain ⟨q, hq⟩ : ∃ q, q = ofTwoO o := ⟨_, rfl⟩
  have HX : Hid (opensO o = ((o.toList == [110, 101, 103]) || ((o.toList == [110, 111, 116]) || q))) := Lib.hid (by rw [hq]; rfl)
  have HC := Lib.hid (ofTwo_any o w)
  rw [← hq] at HC
  rw [HX.out]
  clear hq HX
  cases h0 : (o.toList == [110, 101, 103])
  · cases h1 : (o.toList == [110, 111, 116])
    · go_enter Tryz.func107, Tryz.ntmps107
      go_wp2_with (go_at_call 79; with_reducible refine (HC.out).mono ?_; rintro e w1 ⟨rfl, rfl⟩)
      go_ret
      exact ⟨rfl, rfl⟩
    · go_enter Tryz.func107, Tryz.ntmps107
      go_wp2
      go_ret
      exact ⟨rfl, rfl⟩
  · go_enter Tryz.func107, Tryz.ntmps107
    go_wp2
    go_ret
    exact ⟨rfl, rfl⟩
end
end Go.Proofs.YteaongdlbleehaaGreatDoor
