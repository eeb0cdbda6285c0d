/- The tree layer: the writer's texts, indent, ofTwo, opens. -/
import Derived.Test.YteaongdlbleehaaDoorTrBuild
namespace Go.Proofs.YteaongdlbleehaaDoor
open Go.RowKit
theorem Blk.keptW {w w' : World} {g b : Nat} {t : TypeId} {cs : Array Value} (h : Blk w g t cs) (hk : Kept b w w') (hg : g ≠ b) (ht : t ≠ 5) : Blk w' g t cs :=
  hk g _ h (fun e => hg (by injection e)) (fun c fz e => ht (by injection e))
theorem Wr.alloc {b : Nat} {l : Bs} {w : World} (h : Wr b l w) (o : Obj) : Wr b l (w.alloc o) := by
  refine ⟨h.1.alloc o, fun e => ?_⟩
  obtain ⟨p, hp⟩ := h.2 e
  exact ⟨p, (Lib.alloc_old w o b (Array.getElem?_eq_some_iff.1 hp).1).trans hp⟩
theorem Wr.lt {b : Nat} {l : Bs} {w : World} (h : Wr b l w) : b < w.heap.size := by
  rcases h.1 with h | h
  · exact h.lt
  · exact h.lt
theorem RetWr.trans {b : Nat} {l l' : Bs} {w w1 w2 : World} (h : RetWr b l w w1) (h2 : RetWr b l' w1 w2) : RetWr b l' w w2 := ⟨h2.1, h.2.1.trans h2.2.1, h.2.2.trans h2.2.2⟩
theorem RetWr.alloc {b : Nat} {l : Bs} {w w1 : World} (h : RetWr b l w w1) (o : Obj) : RetWr b l w (w1.alloc o) := ⟨h.1.alloc o, h.2.1.alloc (Nat.le_of_lt (Nat.lt_of_le_of_lt (Nat.le_refl _) h.1.lt)) o, h.2.2.alloc o⟩
theorem RetWr.refl {b : Nat} {l : Bs} {w : World} (h : Wr b l w) : RetWr b l w w := ⟨h, Below.refl _ _, Lib.OthersKept.refl _ _ _⟩
theorem RetWr.of {b : Nat} {l l' : Bs} {w w1 : World} (h : RetWr b l w w1) (e : l = l') : RetWr b l' w w1 := e ▸ h
/-- Texts, one behind the other. -/
def flat (ss : List ByteArray) : Bs := ss.flatMap (·.data.toList)
theorem flat_take {ss : List ByteArray} {k : Nat} {s : ByteArray} (h : ss[k]? = some s) : flat (ss.take (k + 1)) = flat (ss.take k) ++ s.data.toList := by
  rw [take_one h]; simp [flat]
theorem flat_le {ss : List ByteArray} {k : Nat} {s : ByteArray} (h : ss[k]? = some s) : (flat (ss.take k)).length + s.size ≤ (flat ss).length := by
  have h1 := flat_take h
  have h2 : flat ss = flat (ss.take (k + 1)) ++ flat (ss.drop (k + 1)) := by simp [flat, ← List.flatMap_append]
  rw [h2, h1]
  simp only [List.length_append, list_size_]
  omega
section
variable {b : Nat} {l : Bs} {w : World}
set_option maxHeartbeats 3200000 in
set_option maxRecDepth 100000 in
theorem texts_any (ss : List ByteArray) (bk c : Nat) (hn : ss.length ≤ 1048576) (h : Wr b l w) (hk : Blk w bk 9 (ss.map Value.string).toArray) (hlen : l.length + (flat ss).length ≤ 140737488355328) :
    Calls Tryd.prog 19 #[.pointer (some ⟨b, 0, none⟩), .slice (some ⟨bk, 0, none⟩) ss.length c] w fun e w' => e = .returned (.tuple #[]) ∧ RetWr b (l ++ flat ss) w w' := by
  have hne : bk ≠ b := by
    rintro rfl
    rcases h.1 with h | h
    · obtain ⟨_, v, hb, _⟩ := h
      unfold Blk at hk; rw [hb] at hk; injection hk with e; injection e with _ e; exact absurd e (by decide)
    · obtain ⟨_, v, hb, _⟩ := h
      unfold Blk at hk; rw [hb] at hk; injection hk with e; injection e with _ e; exact absurd e (by decide)
  have HW0 := Lib.hid h
  have HK := Lib.hid hk
  have HNe := Lib.hid hne
  have HLen := Lib.hid hlen
  obtain ⟨m, hm⟩ : ∃ m, ss.length = m := ⟨_, rfl⟩
  have HM := Lib.hid hm
  rw [hm] at hn ⊢
  clear h hk hne hlen hm
  go_enter Tryd.func19, Tryd.ntmps19
  go_wp2
  go_loopw [8] (fun i wr => ∃ k : Nat, i = .int .i64 (k : Int) ∧ k ≤ m ∧ RetWr b (l ++ flat (ss.take k)) w wr) (fun i _ => m - (RowKit.intOf i).toNat)
  case atStart => exact ⟨0, rfl, Nat.zero_le _, RetWr.of (RetWr.refl HW0.out) (by simp [flat])⟩
  case round =>
    obtain ⟨k, rfl, hk, hr⟩ := hrel
    have HR := Lib.hid hr
    clear hr
    by_cases hlt : k < m
    · obtain ⟨s, hs⟩ : ∃ s, ss[k]? = some s := ⟨ss[k]'(by rw [HM.out]; exact hlt), List.getElem?_eq_getElem _⟩
      have x0 := (HK.out.keptW HR.out.2.2 HNe.out (by decide)).cell k
      have e0 : (ss.map Value.string).toArray[k]? = some (.string s) := by simp [hs]
      rw [e0] at x0
      have HC := Lib.hid (write_wr s HR.out.1 (by have := flat_le hs; have := HLen.out; rw [List.length_append]; omega))
      have HS := Lib.hid (flat_take hs)
      clear hs e0
      go_wp2_with (go_at_call 42; with_reducible refine (HC.out).mono ?_; rintro e w1 ⟨rfl, hb⟩; have HB := Lib.hid (HR.out.trans hb); clear hb)
      go_roundw
      case rel => exact ⟨k + 1, by go_num, hlt, by rw [HS.out, ← List.append_assoc]; exact HB.out⟩
      case measure => simp [RowKit.intOf]; omega
    · have he : k = m := by omega
      subst he
      have hT : ss.take k = ss := by rw [← HM.out, List.take_length]
      rw [hT] at HR
      clear hT
      go_wp2_with fail
      go_end0
      exact ⟨rfl, HR.out⟩
theorem texts_new (ss : List ByteArray) (cs : Array Value) (hcs : cs = (ss.map Value.string).toArray) (n : Nat) (hn' : n = ss.length) (r : Bs) (hr : r = flat ss) (hn : ss.length ≤ 100) (h : Wr b l w) (hlen : l.length + r.length ≤ 140737488355328) :
    Calls Tryd.prog 19 #[.pointer (some ⟨b, 0, none⟩), .slice (some ⟨w.heap.size, 0, none⟩) n n] (w.alloc (.cells cs 9)) fun e w' => e = .returned (.tuple #[]) ∧ RetWr b (l ++ r) w w' := by
  subst hcs hn' hr
  exact (texts_any ss w.heap.size ss.length (by omega) (h.alloc _) (Blk.new w _ _) hlen).mono fun e w' ⟨h1, h2⟩ => ⟨h1, ((RetWr.refl h).alloc _).trans h2⟩
theorem texts1 (a1 : ByteArray) (r1 : Bs) (h1 : a1.data.toList = r1) (h : Wr b l w) (hlen : l.length + r1.length ≤ 140737488355328) : Calls Tryd.prog 19 #[.pointer (some ⟨b, 0, none⟩), .slice (some ⟨w.heap.size, 0, none⟩) 1 1] (w.alloc (.cells #[.string a1] 9)) fun e w' => e = .returned (.tuple #[]) ∧ RetWr b (l ++ r1) w w' := by
  subst h1
  exact texts_new [a1] _ rfl 1 rfl _ (by simp [flat]) (by simp) h (by (try simp only [List.length_append]); omega)
theorem texts2 (a1 a2 : ByteArray) (r1 r2 : Bs) (h1 : a1.data.toList = r1) (h2 : a2.data.toList = r2) (h : Wr b l w) (hlen : l.length + r1.length + r2.length ≤ 140737488355328) : Calls Tryd.prog 19 #[.pointer (some ⟨b, 0, none⟩), .slice (some ⟨w.heap.size, 0, none⟩) 2 2] (w.alloc (.cells #[.string a1, .string a2] 9)) fun e w' => e = .returned (.tuple #[]) ∧ RetWr b (l ++ (r1 ++ r2)) w w' := by
  subst h1 h2
  exact texts_new [a1, a2] _ rfl 2 rfl _ (by simp [flat]) (by simp) h (by (try simp only [List.length_append]); omega)
theorem texts3 (a1 a2 a3 : ByteArray) (r1 r2 r3 : Bs) (h1 : a1.data.toList = r1) (h2 : a2.data.toList = r2) (h3 : a3.data.toList = r3) (h : Wr b l w) (hlen : l.length + r1.length + r2.length + r3.length ≤ 140737488355328) : Calls Tryd.prog 19 #[.pointer (some ⟨b, 0, none⟩), .slice (some ⟨w.heap.size, 0, none⟩) 3 3] (w.alloc (.cells #[.string a1, .string a2, .string a3] 9)) fun e w' => e = .returned (.tuple #[]) ∧ RetWr b (l ++ (r1 ++ (r2 ++ r3))) w w' := by
  subst h1 h2 h3
  exact texts_new [a1, a2, a3] _ rfl 3 rfl _ (by simp [flat]) (by simp) h (by (try simp only [List.length_append]); omega)
theorem texts4 (a1 a2 a3 a4 : ByteArray) (r1 r2 r3 r4 : Bs) (h1 : a1.data.toList = r1) (h2 : a2.data.toList = r2) (h3 : a3.data.toList = r3) (h4 : a4.data.toList = r4) (h : Wr b l w) (hlen : l.length + r1.length + r2.length + r3.length + r4.length ≤ 140737488355328) : Calls Tryd.prog 19 #[.pointer (some ⟨b, 0, none⟩), .slice (some ⟨w.heap.size, 0, none⟩) 4 4] (w.alloc (.cells #[.string a1, .string a2, .string a3, .string a4] 9)) fun e w' => e = .returned (.tuple #[]) ∧ RetWr b (l ++ (r1 ++ (r2 ++ (r3 ++ r4)))) w w' := by
  subst h1 h2 h3 h4
  exact texts_new [a1, a2, a3, a4] _ rfl 4 rfl _ (by simp [flat]) (by simp) h (by (try simp only [List.length_append]); omega)
theorem texts5 (a1 a2 a3 a4 a5 : ByteArray) (r1 r2 r3 r4 r5 : Bs) (h1 : a1.data.toList = r1) (h2 : a2.data.toList = r2) (h3 : a3.data.toList = r3) (h4 : a4.data.toList = r4) (h5 : a5.data.toList = r5) (h : Wr b l w) (hlen : l.length + r1.length + r2.length + r3.length + r4.length + r5.length ≤ 140737488355328) : Calls Tryd.prog 19 #[.pointer (some ⟨b, 0, none⟩), .slice (some ⟨w.heap.size, 0, none⟩) 5 5] (w.alloc (.cells #[.string a1, .string a2, .string a3, .string a4, .string a5] 9)) fun e w' => e = .returned (.tuple #[]) ∧ RetWr b (l ++ (r1 ++ (r2 ++ (r3 ++ (r4 ++ r5))))) w w' := by
  subst h1 h2 h3 h4 h5
  exact texts_new [a1, a2, a3, a4, a5] _ rfl 5 rfl _ (by simp [flat]) (by simp) h (by (try simp only [List.length_append]); omega)
set_option maxHeartbeats 3200000 in
set_option maxRecDepth 100000 in
theorem indent_any (d : Nat) (hd : d ≤ 1099511627776) (h : Wr b l w) (hlen : l.length + (ind d).length ≤ 140737488355328) :
    Calls Tryd.prog 45 #[.pointer (some ⟨b, 0, none⟩), .int .i64 (d : Int)] w fun e w' => e = .returned (.tuple #[]) ∧ RetWr b (l ++ ind d) w w' := by
  have HW0 := Lib.hid h
  have hil : ∀ k, (ind k).length = 2 * k := fun k => by
    induction k with
    | zero => rfl
    | succ k ih => simp only [ind, List.length_append, ih, List.length_cons, List.length_nil]; omega
  have his : ∀ k, ind (k + 1) = ind k ++ [32, 32] := fun k => by
    induction k with
    | zero => rfl
    | succ k ih =>
      show [32, 32] ++ ind (k + 1) = ([32, 32] ++ ind k) ++ [32, 32]
      rw [ih, List.append_assoc]
  have HIl := Lib.hid hil
  have HIs := Lib.hid his
  have HLen := Lib.hid hlen
  clear h hil his hlen
  go_enter Tryd.func45, Tryd.ntmps45
  go_wp2
  go_loopw [5] (fun i wr => ∃ k : Nat, i = .int .i64 (k : Int) ∧ k ≤ d ∧ RetWr b (l ++ ind k) w wr) (fun i _ => d - (RowKit.intOf i).toNat)
  case atStart => exact ⟨0, rfl, Nat.zero_le _, RetWr.of (RetWr.refl HW0.out) (by simp [ind])⟩
  case round =>
    obtain ⟨k, rfl, hk, hr⟩ := hrel
    have HR := Lib.hid hr
    clear hr
    by_cases hlt : k < d
    · have HC := Lib.hid (write_wr ⟨#[32, 32]⟩ HR.out.1 (by
        have h1 := HIl.out k
        have h2 := HIl.out d
        have := HLen.out
        rw [List.length_append]
        show l.length + (ind k).length + 2 ≤ _
        omega))
      go_wp2_with (go_at_call 42; with_reducible refine (HC.out).mono ?_; rintro e w1 ⟨rfl, hb⟩; have HB := Lib.hid (HR.out.trans hb); clear hb)
      go_roundw
      case rel => exact ⟨k + 1, by go_num, hlt, by rw [HIs.out, ← List.append_assoc]; exact HB.out⟩
      case measure => simp [RowKit.intOf]; omega
    · have he : k = d := by omega
      subst he
      go_wp2_with fail
      go_end0
      exact ⟨rfl, HR.out⟩
set_option maxHeartbeats 3200000 in
set_option maxRecDepth 100000 in
theorem ofTwo_any (o : ByteArray) (w : World) : Calls Tryd.prog 49 #[.string o] w fun e w' => e = .returned (.bool (ofTwoO o)) ∧ w' = w := by
  have HX : Hid (ofTwoO o = ((o.toList == [43]) || ((o.toList == [45]) || ((o.toList == [42]) || ((o.toList == [47]) || ((o.toList == [61, 61]) || ((o.toList == [33, 61]) || ((o.toList == [60]) || ((o.toList == [60, 61]) || ((o.toList == [62]) || ((o.toList == [62, 61]) || ((o.toList == [38, 38]) || (o.toList == [124, 124])))))))))))) ) := Lib.hid (by simp only [ofTwoO, twos, List.contains_cons, List.contains_nil, Bool.or_false])
  cases h0 : (o.toList == [43])
  · cases h1 : (o.toList == [45])
    · cases h2 : (o.toList == [42])
      · cases h3 : (o.toList == [47])
        · cases h4 : (o.toList == [61, 61])
          · cases h5 : (o.toList == [33, 61])
            · cases h6 : (o.toList == [60])
              · cases h7 : (o.toList == [60, 61])
                · cases h8 : (o.toList == [62])
                  · cases h9 : (o.toList == [62, 61])
                    · cases h10 : (o.toList == [38, 38])
                      · cases h11 : (o.toList == [124, 124])
                        · go_enter Tryd.func49, Tryd.ntmps49
                          go_wp2
                          go_ret
                          exact ⟨ret_bool (by rw [HX.out, h0, h1, h2, h3, h4, h5, h6, h7, h8, h9, h10, h11]; rfl), rfl⟩
                        · go_enter Tryd.func49, Tryd.ntmps49
                          go_wp2
                          go_ret
                          exact ⟨ret_bool (by rw [HX.out, h0, h1, h2, h3, h4, h5, h6, h7, h8, h9, h10, h11]; rfl), rfl⟩
                      · go_enter Tryd.func49, Tryd.ntmps49
                        go_wp2
                        go_ret
                        exact ⟨ret_bool (by rw [HX.out, h0, h1, h2, h3, h4, h5, h6, h7, h8, h9, h10]; rfl), rfl⟩
                    · go_enter Tryd.func49, Tryd.ntmps49
                      go_wp2
                      go_ret
                      exact ⟨ret_bool (by rw [HX.out, h0, h1, h2, h3, h4, h5, h6, h7, h8, h9]; rfl), rfl⟩
                  · go_enter Tryd.func49, Tryd.ntmps49
                    go_wp2
                    go_ret
                    exact ⟨ret_bool (by rw [HX.out, h0, h1, h2, h3, h4, h5, h6, h7, h8]; rfl), rfl⟩
                · go_enter Tryd.func49, Tryd.ntmps49
                  go_wp2
                  go_ret
                  exact ⟨ret_bool (by rw [HX.out, h0, h1, h2, h3, h4, h5, h6, h7]; rfl), rfl⟩
              · go_enter Tryd.func49, Tryd.ntmps49
                go_wp2
                go_ret
                exact ⟨ret_bool (by rw [HX.out, h0, h1, h2, h3, h4, h5, h6]; rfl), rfl⟩
            · go_enter Tryd.func49, Tryd.ntmps49
              go_wp2
              go_ret
              exact ⟨ret_bool (by rw [HX.out, h0, h1, h2, h3, h4, h5]; rfl), rfl⟩
          · go_enter Tryd.func49, Tryd.ntmps49
            go_wp2
            go_ret
            exact ⟨ret_bool (by rw [HX.out, h0, h1, h2, h3, h4]; rfl), rfl⟩
        · go_enter Tryd.func49, Tryd.ntmps49
          go_wp2
          go_ret
          exact ⟨ret_bool (by rw [HX.out, h0, h1, h2, h3]; rfl), rfl⟩
      · go_enter Tryd.func49, Tryd.ntmps49
        go_wp2
        go_ret
        exact ⟨ret_bool (by rw [HX.out, h0, h1, h2]; rfl), rfl⟩
    · go_enter Tryd.func49, Tryd.ntmps49
      go_wp2
      go_ret
      exact ⟨ret_bool (by rw [HX.out, h0, h1]; rfl), rfl⟩
  · go_enter Tryd.func49, Tryd.ntmps49
    go_wp2
    go_ret
    exact ⟨ret_bool (by rw [HX.out, h0]; rfl), rfl⟩
set_option maxHeartbeats 3200000 in
set_option maxRecDepth 100000 in
theorem opens_any (o : ByteArray) (w : World) : Calls Tryd.prog 72 #[.string o] w fun e w' => e = .returned (.bool (opensO o)) ∧ w' = w := by
  obtain ⟨q, hq⟩ : ∃ q, q = ofTwoO o := ⟨_, rfl⟩
  have HX : Hid (opensO o = ((o.toList == [110, 101, 103]) || ((o.toList == [110, 111, 116]) || q))) := Lib.hid (by rw [hq]; rfl)
  have HC := Lib.hid (ofTwo_any o w)
  rw [← hq] at HC
  rw [HX.out]
  clear hq HX
  cases h0 : (o.toList == [110, 101, 103])
  · cases h1 : (o.toList == [110, 111, 116])
    · go_enter Tryd.func72, Tryd.ntmps72
      go_wp2_with (go_at_call 49; with_reducible refine (HC.out).mono ?_; rintro e w1 ⟨rfl, rfl⟩)
      go_ret
      exact ⟨rfl, rfl⟩
    · go_enter Tryd.func72, Tryd.ntmps72
      go_wp2
      go_ret
      exact ⟨rfl, rfl⟩
  · go_enter Tryd.func72, Tryd.ntmps72
    go_wp2
    go_ret
    exact ⟨rfl, rfl⟩
end
end Go.Proofs.YteaongdlbleehaaDoor
