/- The contracts of the calls that others see: New, Var, Not, And, Or, Xor, Ite, Restrict, Exists, Compose. -/
import Derived.Test.YtdgjbbcalffbcaaBHangs
import Derived.Test.YtdgjbbcalffbcaaBErr
namespace Go.Proofs.Ytdgjbbcalffbcaa
open Go.RowKit
attribute [local go_sem ↓] Go.wp_at_zero Go.wp_at_succ

section
variable {W : World} {own : Nat → Prop} {m lim : Nat} {L : List Nd}
set_option maxRecDepth 100000 in
set_option maxHeartbeats 3200000 in
/-- Where no node of v is below, and none above: no room is asked for. -/
theorem without_plain {ko : FuncId} {fst : Array Value} {k : Int} {v : Nat} (hM : Mg W own m lim L) (hv : v < 12) : Calls Try.prog 43 #[.pointer (some ⟨m, 0, none⟩), .int .i64 k, .int .i64 (-2), .int .i64 v, .func (.func ko) fst #[]] W (fun e w' => ∃ x : Int, e = .returned (.tuple #[.int .i64 x, .nilIface]) ∧ Below W.heap.size W w') := by
  obtain ⟨f, hff⟩ : ∃ f : Int, f = -2 := ⟨_, rfl⟩
  have hf : InB L.length f := by unfold InB; omega
  have hvf : (v : Int) < varP L f := by rw [varP_neg (by omega)]; omega
  rw [← hff]
  have hR := hM.right
  have hA := hM.bools
  obtain ⟨t, ht⟩ : ∃ t : Nat, varP L f = (t : Int) := ⟨(varP L f).toNat, by have := varP_ge hR f; omega⟩
  have ht12 : t ≤ 12 := by have := varP_le hR f; omega
  have htop : topP L [f] = (t : Int) := by rw [top_one]; omega
  have not : ∀ i, W.heap.size ≤ i → ¬ own i := fun i hi => new_not hM hi
  have s0 : W.heap.size = W.heap.size := rfl
  have s1 := size_up s0 (.cells #[.pointer (some ⟨m, 0, none⟩)] 23)
  have s2 := size_up s1 (.cells #[.int .i64 k] 3)
  have s3 := size_up s2 (.cells #[.int .i64 f] 3)
  have s4 := size_up s3 (.cells #[.int .i64 (v : Int)] 3)
  have s5 := size_up s4 (.cells #[.func (.func ko) fst #[]] 95)
  have s6 := size_up s5 (.cells #[.int .i64 f] 3)
  have hbT : Below W.heap.size W _ := (((((((Below.refl W.heap.size W).alloc (by first | exact Nat.le_refl _ | omega) (.cells #[.pointer (some ⟨m, 0, none⟩)] 23)).alloc (by rw [s1]; omega) (.cells #[.int .i64 k] 3)).alloc (by rw [s2]; omega) (.cells #[.int .i64 f] 3)).alloc (by rw [s3]; omega) (.cells #[.int .i64 (v : Int)] 3)).alloc (by rw [s4]; omega) (.cells #[.func (.func ko) fst #[]] 95)).alloc (by rw [s5]; omega) (.cells #[.int .i64 f] 3))
  have b6 := Blk.new_ s5 3 #[.int .i64 f]
  have HT := Lib.hid (top_any (hM.below hbT) [f] (by simp) (g := W.heap.size + 1 + 1 + 1 + 1 + 1) (c := 1) (fun j x hx => by
    have hj : j = 0 := by have := (List.getElem?_eq_some_iff.1 hx).1; simp at this; omega
    subst hj
    simp at hx; subst hx; exact b6.cell 0))
  rw [htop] at HT
  simp only [List.length_cons, List.length_nil, Nat.zero_add] at HT
  have hbV : Below W.heap.size W (((((((W.alloc (.cells #[.pointer (some ⟨m, 0, none⟩)] 23)).alloc (.cells #[.int .i64 k] 3)).alloc (.cells #[.int .i64 f] 3)).alloc (.cells #[.int .i64 (v : Int)] 3)).alloc (.cells #[.func (.func ko) fst #[]] 95)).alloc (.cells #[.int .i64 f] 3)).alloc (.cells #[.int .i64 (t : Int)] 3)) := hbT.alloc (by rw [s6]; omega) (.cells #[.int .i64 (t : Int)] 3)
  have v1 := (((((((Blk.new_ s0 23 #[.pointer (some ⟨m, 0, none⟩)]).up (.cells #[.int .i64 k] 3)).up (.cells #[.int .i64 f] 3)).up (.cells #[.int .i64 (v : Int)] 3)).up (.cells #[.func (.func ko) fst #[]] 95)).up (.cells #[.int .i64 f] 3)).up (.cells #[.int .i64 (t : Int)] 3))
  have v2 := ((((((Blk.new_ s1 3 #[.int .i64 k]).up (.cells #[.int .i64 f] 3)).up (.cells #[.int .i64 (v : Int)] 3)).up (.cells #[.func (.func ko) fst #[]] 95)).up (.cells #[.int .i64 f] 3)).up (.cells #[.int .i64 (t : Int)] 3))
  have v3 := (((((Blk.new_ s2 3 #[.int .i64 f]).up (.cells #[.int .i64 (v : Int)] 3)).up (.cells #[.func (.func ko) fst #[]] 95)).up (.cells #[.int .i64 f] 3)).up (.cells #[.int .i64 (t : Int)] 3))
  have v4 := ((((Blk.new_ s3 3 #[.int .i64 (v : Int)]).up (.cells #[.func (.func ko) fst #[]] 95)).up (.cells #[.int .i64 f] 3)).up (.cells #[.int .i64 (t : Int)] 3))
  have v5 := (((Blk.new_ s4 95 #[.func (.func ko) fst #[]]).up (.cells #[.int .i64 f] 3)).up (.cells #[.int .i64 (t : Int)] 3))
  have v6 := ((Blk.new_ s5 3 #[.int .i64 f]).up (.cells #[.int .i64 (t : Int)] 3))
  have v7 := (Blk.new_ s6 3 #[.int .i64 (t : Int)])
  have hM2 := hM.below hbV
  have c1 : v < t := by omega
  have HO := Lib.hid hbV
  have c1' : (v : Int) < (t : Int) := by omega
  clear hM hf hvf hff hR hA ht htop not s0 s1 s2 s3 s4 s5 s6 hbT b6 hbV v1 v2 v3 v4 v5 v6 v7 hM2
  go_enter Try.func43, Try.ntmps43
  go_wp2_with (go_at_call 61; ((with_reducible refine HT.out.mono ?_); rintro e w1 ⟨rfl, rfl⟩))
  go_ret2
  exact ⟨_, rfl, HO.out⟩

/-- What a call brings: of a u that is told. -/
structure Grow2 (u : Int) (L L' : List Nd) : Prop where
  more : ∃ M, L' = L ++ M
  few : ∀ N : Nat, lowN N L' ≤ lowN N L + (2 ^ N - 1)
  vars : ∀ N : Nat, AllV N L → u < N → AllV N L'
theorem Grew.two {L L' : List Nd} (h : Grew 0 L L') (u : Int) : Grow2 u L L' := ⟨h.more, fun N => h.few N, fun N hN _ => h.vars N hN⟩
theorem grow2_refl (u : Int) (L : List Nd) : Grow2 u L L := ⟨⟨[], by simp⟩, fun N => by omega, fun _ h _ => h⟩
/-- What a call tells that may be. -/
def RetPub (F : Nat → Bool) (u : Int) (own : Nat → Prop) (m lim : Nat) (L : List Nd) (W : World) (e : Ending) (w' : World) : Prop :=
  ∃ (own' : Nat → Prop) (L' : List Nd), Mg w' own' m lim L' ∧ Went own W own' w' ∧ Grow2 u L L' ∧ Told lim F L' e w'
/-- What a call tells that may not be. -/
def RetArg (own : Nat → Prop) (m lim : Nat) (L : List Nd) (W : World) (e : Ending) (w' : World) : Prop :=
  ∃ own' : Nat → Prop, e = .returned (.tuple #[.int .i64 0, .iface 54 (.int .i64 1)]) ∧ Mg w' own' m lim L ∧ Went own W own' w'
theorem RetOp.pub {F : Nat → Bool} {own1 : Nat → Prop} {w1 : World} {e : Ending} {w' : World} (h : RetOp F 0 own1 m lim L w1 e w') (q : Went own W own1 w1) (u : Int) : RetPub F u own m lim L W e w' := by
  obtain ⟨own', L', h1, h2, h3, h4⟩ := h
  exact ⟨own', L', h1, q.trans h2, h3.two u, h4⟩
theorem isB_yes (hM : Mg W own m lim L) {r : Int} (h : InB L.length r) : Calls Try.prog 27 #[.pointer (some ⟨m, 0, none⟩), .int .i64 r] W fun e w' => ∃ own' : Nat → Prop, e = .returned (.bool true) ∧ Mg w' own' m lim L ∧ Went own W own' w' := by
  have := isB_any hM r
  rw [decide_eq_true h] at this
  exact this
theorem isB_no (hM : Mg W own m lim L) {r : Int} (h : ¬ InB L.length r) : Calls Try.prog 27 #[.pointer (some ⟨m, 0, none⟩), .int .i64 r] W fun e w' => ∃ own' : Nat → Prop, e = .returned (.bool false) ∧ Mg w' own' m lim L ∧ Went own W own' w' := by
  have := isB_any hM r
  rw [decide_eq_false h] at this
  exact this
theorem isVar_yes {v : Int} (h : 0 ≤ v ∧ v < 12) (W : World) : Calls Try.prog 42 #[.int .i64 v] W (RetW (.bool true) W) := by
  have := isVar_any v W
  rw [decide_eq_true h] at this
  exact this
theorem isVar_no {v : Int} (h : ¬ (0 ≤ v ∧ v < 12)) (W : World) : Calls Try.prog 42 #[.int .i64 v] W (RetW (.bool false) W) := by
  have := isVar_any v W
  rw [decide_eq_false h] at this
  exact this
theorem asked_good (hM : Mg W own m lim L) {ko : FuncId} {k f g : Int} (eko : ∀ args w, (callFunc ko args).run Try.prog w = .ok (.enter ko args) w) (hop : Does2 ko k m lim 0) (hf : InB L.length f) (hg : InB L.length g) (u : Int) :
    Calls Try.prog 38 #[.pointer (some ⟨m, 0, none⟩), (.func (.func ko) #[.pointer (some ⟨m, 0, none⟩)] #[]), .int .i64 f, .int .i64 g] W (RetPub (fun b => o2 k (fn L f b) (fn L g b)) u own m lim L W) := by
  have HM := Lib.hid hM
  have HF := Lib.hid hf
  have HG := Lib.hid hg
  have HO := Lib.hid (fun w own1 (h : Mg w own1 m lim L) => hop w own1 L f g h hf hg (varP_ge h.right f) (varP_ge h.right g))
  clear hM hop hf hg
  go_enter Try.func38, Try.ntmps38
  go_wp2_with (first
    | (go_at_call 27; ((with_reducible refine (isB_yes M1.out HG.out).mono ?_); rintro e w2 ⟨own2, rfl, m2, q2⟩); have M2 := Lib.hid m2)
    | (go_at_call 27; ((with_reducible refine (isB_yes HM.out HF.out).mono ?_); rintro e w1 ⟨own1, rfl, m1, q1⟩); have M1 := Lib.hid m1)
    | (go_at_fn ko; ((with_reducible refine (HO.out _ _ M2.out).mono ?_); rintro e w3 ⟨own3, L3, h3, q3, g3, x3, ev3, rfl, hev⟩)))
  go_ret2
  have hr : RetOp (fun b => o2 k (fn L f b) (fn L g b)) 0 own2 m lim L w2 (.returned (.tuple #[.int .i64 x3, ev3])) w3 := ⟨own3, L3, h3, q3, g3, x3, ev3, rfl, hev⟩
  exact hr.pub (q1.trans q2) u
theorem asked_bad (hM : Mg W own m lim L) {ov : Value} {f g : Int} (h : ¬ (InB L.length f ∧ InB L.length g)) :
    Calls Try.prog 38 #[.pointer (some ⟨m, 0, none⟩), ov, .int .i64 f, .int .i64 g] W (RetArg own m lim L W) := by
  have HM := Lib.hid hM
  by_cases hf : InB L.length f
  · have HF := Lib.hid hf
    have HG := Lib.hid (show ¬ InB L.length g from fun hg => h ⟨hf, hg⟩)
    clear hM hf h
    go_enter Try.func38, Try.ntmps38
    go_wp2_with (first
      | (go_at_call 27; ((with_reducible refine (isB_no M1.out HG.out).mono ?_); rintro e w2 ⟨own2, rfl, m2, q2⟩); have M2 := Lib.hid m2)
      | (go_at_call 27; ((with_reducible refine (isB_yes HM.out HF.out).mono ?_); rintro e w1 ⟨own1, rfl, m1, q1⟩); have M1 := Lib.hid m1))
    go_ret2
    exact ⟨own2, rfl, m2, q1.trans q2⟩
  · have HF := Lib.hid hf
    clear hM hf h
    go_enter Try.func38, Try.ntmps38
    go_wp2_with (first
      | (go_at_call 27; ((with_reducible refine (isB_no HM.out HF.out).mono ?_); rintro e w1 ⟨own1, rfl, m1, q1⟩); have M1 := Lib.hid m1))
    go_ret2
    exact ⟨own1, rfl, m1, q1⟩
theorem And_good (hM : Mg W own m lim L) (hl : lim ≤ 65536) {f g : Int} (hf : InB L.length f) (hg : InB L.length g) (u : Int) :
    Calls Try.prog 21 #[.pointer (some ⟨m, 0, none⟩), .int .i64 f, .int .i64 g] W (RetPub (fun b => o2 (-1) (fn L f b) (fn L g b)) u own m lim L W) := by
  have HA := Lib.hid (asked_good hM (enters_of Try.func40 (by kernel_rfl) rfl) (and_any hl 0) hf hg u)
  clear hM hl hf hg
  go_enter Try.func21, Try.ntmps21
  go_wp2_with (go_at_call 38; ((with_reducible refine HA.out.mono ?_); rintro e w3 ⟨own3, L3, h3, q3, g3, x3, ev3, rfl, hev⟩))
  go_ret2
  exact ⟨own3, L3, h3, q3, g3, x3, ev3, rfl, hev⟩
theorem And_bad (hM : Mg W own m lim L) {f g : Int} (h : ¬ (InB L.length f ∧ InB L.length g)) :
    Calls Try.prog 21 #[.pointer (some ⟨m, 0, none⟩), .int .i64 f, .int .i64 g] W (RetArg own m lim L W) := by
  have HA := Lib.hid (fun ov => asked_bad (ov := ov) hM h)
  clear hM h
  go_enter Try.func21, Try.ntmps21
  go_wp2_with (go_at_call 38; ((with_reducible refine (HA.out _).mono ?_); rintro e w1 ⟨own1, rfl, m1, q1⟩))
  go_ret2
  exact ⟨own1, rfl, m1, q1⟩
theorem Or_good (hM : Mg W own m lim L) (hl : lim ≤ 65536) {f g : Int} (hf : InB L.length f) (hg : InB L.length g) (u : Int) :
    Calls Try.prog 53 #[.pointer (some ⟨m, 0, none⟩), .int .i64 f, .int .i64 g] W (RetPub (fun b => o2 (-2) (fn L f b) (fn L g b)) u own m lim L W) := by
  have HA := Lib.hid (asked_good hM (enters_of Try.func50 (by kernel_rfl) rfl) (or_any hl 0) hf hg u)
  clear hM hl hf hg
  go_enter Try.func53, Try.ntmps53
  go_wp2_with (go_at_call 38; ((with_reducible refine HA.out.mono ?_); rintro e w3 ⟨own3, L3, h3, q3, g3, x3, ev3, rfl, hev⟩))
  go_ret2
  exact ⟨own3, L3, h3, q3, g3, x3, ev3, rfl, hev⟩
theorem Or_bad (hM : Mg W own m lim L) {f g : Int} (h : ¬ (InB L.length f ∧ InB L.length g)) :
    Calls Try.prog 53 #[.pointer (some ⟨m, 0, none⟩), .int .i64 f, .int .i64 g] W (RetArg own m lim L W) := by
  have HA := Lib.hid (fun ov => asked_bad (ov := ov) hM h)
  clear hM h
  go_enter Try.func53, Try.ntmps53
  go_wp2_with (go_at_call 38; ((with_reducible refine (HA.out _).mono ?_); rintro e w1 ⟨own1, rfl, m1, q1⟩))
  go_ret2
  exact ⟨own1, rfl, m1, q1⟩
theorem Xor_good (hM : Mg W own m lim L) (hl : lim ≤ 65536) {f g : Int} (hf : InB L.length f) (hg : InB L.length g) (u : Int) :
    Calls Try.prog 25 #[.pointer (some ⟨m, 0, none⟩), .int .i64 f, .int .i64 g] W (RetPub (fun b => o2 (-3) (fn L f b) (fn L g b)) u own m lim L W) := by
  have HA := Lib.hid (asked_good hM (enters_of Try.func39 (by kernel_rfl) rfl) (xor_any hl 0) hf hg u)
  clear hM hl hf hg
  go_enter Try.func25, Try.ntmps25
  go_wp2_with (go_at_call 38; ((with_reducible refine HA.out.mono ?_); rintro e w3 ⟨own3, L3, h3, q3, g3, x3, ev3, rfl, hev⟩))
  go_ret2
  exact ⟨own3, L3, h3, q3, g3, x3, ev3, rfl, hev⟩
theorem Xor_bad (hM : Mg W own m lim L) {f g : Int} (h : ¬ (InB L.length f ∧ InB L.length g)) :
    Calls Try.prog 25 #[.pointer (some ⟨m, 0, none⟩), .int .i64 f, .int .i64 g] W (RetArg own m lim L W) := by
  have HA := Lib.hid (fun ov => asked_bad (ov := ov) hM h)
  clear hM h
  go_enter Try.func25, Try.ntmps25
  go_wp2_with (go_at_call 38; ((with_reducible refine (HA.out _).mono ?_); rintro e w1 ⟨own1, rfl, m1, q1⟩))
  go_ret2
  exact ⟨own1, rfl, m1, q1⟩
theorem Not_good (hM : Mg W own m lim L) (hl : lim ≤ 65536) {f : Int} (hf : InB L.length f) (u : Int) :
    Calls Try.prog 20 #[.pointer (some ⟨m, 0, none⟩), .int .i64 f] W (RetPub (fun b => !fn L f b) u own m lim L W) := by
  have HA := Lib.hid (asked_good hM (enters_of Try.func39 (by kernel_rfl) rfl) (xor_any hl 0) hf (show InB L.length (-2) by unfold InB; omega) u)
  have HF : Hid ((fun b => o2 (-3) (fn L f b) (fn L (-2) b)) = fun b => !fn L f b) := Lib.hid (by
    funext b
    rw [fn_true]
    cases fn L f b <;> rfl)
  rw [HF.out] at HA
  clear hM hl hf
  go_enter Try.func20, Try.ntmps20
  go_wp2_with (go_at_call 38; ((with_reducible refine HA.out.mono ?_); rintro e w3 ⟨own3, L3, h3, q3, g3, x3, ev3, rfl, hev⟩))
  go_ret2
  exact ⟨own3, L3, h3, q3, g3, x3, ev3, rfl, hev⟩
theorem Not_bad (hM : Mg W own m lim L) {f : Int} (h : ¬ InB L.length f) :
    Calls Try.prog 20 #[.pointer (some ⟨m, 0, none⟩), .int .i64 f] W (RetArg own m lim L W) := by
  have HA := Lib.hid (fun ov => asked_bad (ov := ov) (g := -2) hM (fun hh => h hh.1))
  clear hM h
  go_enter Try.func20, Try.ntmps20
  go_wp2_with (go_at_call 38; ((with_reducible refine (HA.out _).mono ?_); rintro e w1 ⟨own1, rfl, m1, q1⟩))
  go_ret2
  exact ⟨own1, rfl, m1, q1⟩
theorem Ite_good (hM : Mg W own m lim L) (hl : lim ≤ 65536) {f g h : Int} (hf : InB L.length f) (hg : InB L.length g) (hh : InB L.length h) (u : Int) :
    Calls Try.prog 22 #[.pointer (some ⟨m, 0, none⟩), .int .i64 f, .int .i64 g, .int .i64 h] W (RetPub (fun b => if fn L f b = true then fn L g b else fn L h b) u own m lim L W) := by
  have HM := Lib.hid hM
  have HF := Lib.hid hf
  have HG := Lib.hid hg
  have HH := Lib.hid hh
  have HO := Lib.hid (fun w own1 (h' : Mg w own1 m lim L) => ite_any hl 0 w own1 L f g h h' hf hg hh (varP_ge h'.right f) (varP_ge h'.right g) (varP_ge h'.right h))
  clear hM hl hf hg hh
  go_enter Try.func22, Try.ntmps22
  go_wp2_with (first
    | (go_at_call 27; ((with_reducible refine (isB_yes M2.out HH.out).mono ?_); rintro e w3 ⟨own3, rfl, m3, q3⟩); have M3 := Lib.hid m3)
    | (go_at_call 27; ((with_reducible refine (isB_yes M1.out HG.out).mono ?_); rintro e w2 ⟨own2, rfl, m2, q2⟩); have M2 := Lib.hid m2)
    | (go_at_call 27; ((with_reducible refine (isB_yes HM.out HF.out).mono ?_); rintro e w1 ⟨own1, rfl, m1, q1⟩); have M1 := Lib.hid m1)
    | (go_at_call 41; ((with_reducible refine (HO.out _ _ M3.out).mono ?_); rintro e w4 ⟨own4, L4, h4, q4, g4, x4, ev4, rfl, hev⟩)))
  go_ret2
  have hr : RetOp (fun b => if fn L f b = true then fn L g b else fn L h b) 0 own3 m lim L w3 (.returned (.tuple #[.int .i64 x4, ev4])) w4 := ⟨own4, L4, h4, q4, g4, x4, ev4, rfl, hev⟩
  exact hr.pub (q1.trans (q2.trans q3)) u
theorem Ite_bad (hM : Mg W own m lim L) {f g h : Int} (hn : ¬ (InB L.length f ∧ InB L.length g ∧ InB L.length h)) :
    Calls Try.prog 22 #[.pointer (some ⟨m, 0, none⟩), .int .i64 f, .int .i64 g, .int .i64 h] W (RetArg own m lim L W) := by
  have HM := Lib.hid hM
  by_cases hf : InB L.length f
  · by_cases hg : InB L.length g
    · have HF := Lib.hid hf
      have HG := Lib.hid hg
      have HH := Lib.hid (show ¬ InB L.length h from fun hh => hn ⟨hf, hg, hh⟩)
      clear hM hf hg hn
      go_enter Try.func22, Try.ntmps22
      go_wp2_with (first
        | (go_at_call 27; ((with_reducible refine (isB_no M2.out HH.out).mono ?_); rintro e w3 ⟨own3, rfl, m3, q3⟩); have M3 := Lib.hid m3)
        | (go_at_call 27; ((with_reducible refine (isB_yes M1.out HG.out).mono ?_); rintro e w2 ⟨own2, rfl, m2, q2⟩); have M2 := Lib.hid m2)
        | (go_at_call 27; ((with_reducible refine (isB_yes HM.out HF.out).mono ?_); rintro e w1 ⟨own1, rfl, m1, q1⟩); have M1 := Lib.hid m1))
      go_ret2
      exact ⟨own3, rfl, m3, q1.trans (q2.trans q3)⟩
    · have HF := Lib.hid hf
      have HG := Lib.hid hg
      clear hM hf hg hn
      go_enter Try.func22, Try.ntmps22
      go_wp2_with (first
        | (go_at_call 27; ((with_reducible refine (isB_no M1.out HG.out).mono ?_); rintro e w2 ⟨own2, rfl, m2, q2⟩); have M2 := Lib.hid m2)
        | (go_at_call 27; ((with_reducible refine (isB_yes HM.out HF.out).mono ?_); rintro e w1 ⟨own1, rfl, m1, q1⟩); have M1 := Lib.hid m1))
      go_ret2
      exact ⟨own2, rfl, m2, q1.trans q2⟩
  · have HF := Lib.hid hf
    clear hM hf hn
    go_enter Try.func22, Try.ntmps22
    go_wp2_with (first
      | (go_at_call 27; ((with_reducible refine (isB_no HM.out HF.out).mono ?_); rintro e w1 ⟨own1, rfl, m1, q1⟩); have M1 := Lib.hid m1))
    go_ret2
    exact ⟨own1, rfl, m1, q1⟩
theorem Restrict_good (hM : Mg W own m lim L) (hl : lim ≤ 65536) {f : Int} {v : Nat} {on : Bool} (hf : InB L.length f) (hv : v < 12) (u : Int) :
    Calls Try.prog 23 #[.pointer (some ⟨m, 0, none⟩), .int .i64 f, .int .i64 v, .bool on] W (RetPub (fun b => fn L f (setBit b v on)) u own m lim L W) := by
  have HM := Lib.hid hM
  have HF := Lib.hid hf
  have HV : Hid (0 ≤ (v : Int) ∧ (v : Int) < 12) := Lib.hid (by omega)
  cases on
  · have HO := Lib.hid (fun w own1 (h' : Mg w own1 m lim L) => low_any hl hv w own1 L f h' hf (varP_ge h'.right f))
    clear hM hl hf hv
    go_enter Try.func23, Try.ntmps23
    go_wp2_with (first
      | (go_at_call 27; ((with_reducible refine (isB_yes HM.out HF.out).mono ?_); rintro e w1 ⟨own1, rfl, m1, q1⟩); have M1 := Lib.hid m1)
      | (go_at_call 42; ((with_reducible refine (isVar_yes HV.out _).mono ?_); rintro e w8 ⟨rfl, rfl⟩))
      | (go_at_call 43; ((with_reducible refine (HO.out _ _ M1.out).mono ?_); rintro e w4 ⟨own4, L4, h4, q4, g4, x4, ev4, rfl, hev⟩)))
    go_ret2
    have hr : RetOp (fun b => ow (-5) (fn L f (setBit b v false)) (fn L f (setBit b v true))) 0 own1 m lim L w1 (.returned (.tuple #[.int .i64 x4, ev4])) w4 := ⟨own4, L4, h4, q4, g4, x4, ev4, rfl, hev⟩
    exact hr.pub q1 u
  · have HO := Lib.hid (fun w own1 (h' : Mg w own1 m lim L) => high_any hl hv w own1 L f h' hf (varP_ge h'.right f))
    clear hM hl hf hv
    go_enter Try.func23, Try.ntmps23
    go_wp2_with (first
      | (go_at_call 27; ((with_reducible refine (isB_yes HM.out HF.out).mono ?_); rintro e w1 ⟨own1, rfl, m1, q1⟩); have M1 := Lib.hid m1)
      | (go_at_call 42; ((with_reducible refine (isVar_yes HV.out _).mono ?_); rintro e w8 ⟨rfl, rfl⟩))
      | (go_at_call 43; ((with_reducible refine (HO.out _ _ M1.out).mono ?_); rintro e w4 ⟨own4, L4, h4, q4, g4, x4, ev4, rfl, hev⟩)))
    go_ret2
    have hr : RetOp (fun b => ow (-6) (fn L f (setBit b v false)) (fn L f (setBit b v true))) 0 own1 m lim L w1 (.returned (.tuple #[.int .i64 x4, ev4])) w4 := ⟨own4, L4, h4, q4, g4, x4, ev4, rfl, hev⟩
    exact hr.pub q1 u
theorem Exists_good (hM : Mg W own m lim L) (hl : lim ≤ 65536) {f : Int} {v : Nat} (hf : InB L.length f) (hv : v < 12) (u : Int) :
    Calls Try.prog 29 #[.pointer (some ⟨m, 0, none⟩), .int .i64 f, .int .i64 v] W (RetPub (fun b => fn L f (setBit b v false) || fn L f (setBit b v true)) u own m lim L W) := by
  have HM := Lib.hid hM
  have HF := Lib.hid hf
  have HV : Hid (0 ≤ (v : Int) ∧ (v : Int) < 12) := Lib.hid (by omega)
  have HO := Lib.hid (fun w own1 (h' : Mg w own1 m lim L) => exists_any hl hv w own1 L f h' hf (varP_ge h'.right f))
  clear hM hl hf hv
  go_enter Try.func29, Try.ntmps29
  go_wp2_with (first
    | (go_at_call 27; ((with_reducible refine (isB_yes HM.out HF.out).mono ?_); rintro e w1 ⟨own1, rfl, m1, q1⟩); have M1 := Lib.hid m1)
    | (go_at_call 42; ((with_reducible refine (isVar_yes HV.out _).mono ?_); rintro e w8 ⟨rfl, rfl⟩))
    | (go_at_call 43; ((with_reducible refine (HO.out _ _ M1.out).mono ?_); rintro e w4 ⟨own4, L4, h4, q4, g4, x4, ev4, rfl, hev⟩)))
  go_ret2
  have hr : RetOp (fun b => ow (-4) (fn L f (setBit b v false)) (fn L f (setBit b v true))) 0 own1 m lim L w1 (.returned (.tuple #[.int .i64 x4, ev4])) w4 := ⟨own4, L4, h4, q4, g4, x4, ev4, rfl, hev⟩
  exact hr.pub q1 u
theorem Restrict_bad (hM : Mg W own m lim L) {f v : Int} {on : Bool} (h : ¬ (InB L.length f ∧ (0 ≤ v ∧ v < 12))) :
    Calls Try.prog 23 #[.pointer (some ⟨m, 0, none⟩), .int .i64 f, .int .i64 v, .bool on] W (RetArg own m lim L W) := by
  have HM := Lib.hid hM
  by_cases hf : InB L.length f
  · have HF := Lib.hid hf
    have HV := Lib.hid (show ¬ (0 ≤ v ∧ v < 12) from fun hv => h ⟨hf, hv⟩)
    clear hM hf h
    go_enter Try.func23, Try.ntmps23
    go_wp2_with (first
      | (go_at_call 27; ((with_reducible refine (isB_yes HM.out HF.out).mono ?_); rintro e w1 ⟨own1, rfl, m1, q1⟩); have M1 := Lib.hid m1)
      | (go_at_call 42; ((with_reducible refine (isVar_no HV.out _).mono ?_); rintro e w8 ⟨rfl, rfl⟩)))
    go_ret2
    exact ⟨own1, rfl, m1, q1⟩
  · have HF := Lib.hid hf
    clear hM hf h
    go_enter Try.func23, Try.ntmps23
    go_wp2_with (first
      | (go_at_call 27; ((with_reducible refine (isB_no HM.out HF.out).mono ?_); rintro e w1 ⟨own1, rfl, m1, q1⟩); have M1 := Lib.hid m1))
    go_ret2
    exact ⟨own1, rfl, m1, q1⟩
theorem Exists_bad (hM : Mg W own m lim L) {f v : Int} (h : ¬ (InB L.length f ∧ (0 ≤ v ∧ v < 12))) :
    Calls Try.prog 29 #[.pointer (some ⟨m, 0, none⟩), .int .i64 f, .int .i64 v] W (RetArg own m lim L W) := by
  have HM := Lib.hid hM
  by_cases hf : InB L.length f
  · have HF := Lib.hid hf
    have HV := Lib.hid (show ¬ (0 ≤ v ∧ v < 12) from fun hv => h ⟨hf, hv⟩)
    clear hM hf h
    go_enter Try.func29, Try.ntmps29
    go_wp2_with (first
      | (go_at_call 27; ((with_reducible refine (isB_yes HM.out HF.out).mono ?_); rintro e w1 ⟨own1, rfl, m1, q1⟩); have M1 := Lib.hid m1)
      | (go_at_call 42; ((with_reducible refine (isVar_no HV.out _).mono ?_); rintro e w8 ⟨rfl, rfl⟩)))
    go_ret2
    exact ⟨own1, rfl, m1, q1⟩
  · have HF := Lib.hid hf
    clear hM hf h
    go_enter Try.func29, Try.ntmps29
    go_wp2_with (first
      | (go_at_call 27; ((with_reducible refine (isB_no HM.out HF.out).mono ?_); rintro e w1 ⟨own1, rfl, m1, q1⟩); have M1 := Lib.hid m1))
    go_ret2
    exact ⟨own1, rfl, m1, q1⟩
/-- Restrict of True asks for no room. -/
theorem Restrict_true (hM : Mg W own m lim L) {v : Nat} (hv : v < 12) :
    Calls Try.prog 23 #[.pointer (some ⟨m, 0, none⟩), .int .i64 (-2), .int .i64 v, .bool true] W fun e w' => ∃ (own' : Nat → Prop) (x : Int), e = .returned (.tuple #[.int .i64 x, .nilIface]) ∧ Mg w' own' m lim L ∧ Went own W own' w' := by
  have HM := Lib.hid hM
  have HF : Hid (InB L.length (-2)) := Lib.hid (by unfold InB; omega)
  have HV : Hid (0 ≤ (v : Int) ∧ (v : Int) < 12) := Lib.hid (by omega)
  have HO := Lib.hid (fun w own1 (h' : Mg w own1 m lim L) => without_plain (ko := 44) (fst := #[]) (k := -6) h' hv)
  clear hM hv
  go_enter Try.func23, Try.ntmps23
  go_wp2_with (first
    | (go_at_call 27; ((with_reducible refine (isB_yes HM.out HF.out).mono ?_); rintro e w1 ⟨own1, rfl, m1, q1⟩); have M1 := Lib.hid m1)
    | (go_at_call 42; ((with_reducible refine (isVar_yes HV.out _).mono ?_); rintro e w8 ⟨rfl, rfl⟩))
    | (go_at_call 43; ((with_reducible refine (HO.out _ _ M1.out).mono ?_); rintro e w4 ⟨x4, rfl, hb4⟩)))
  go_ret2
  exact ⟨own1, x4, rfl, m1.below hb4, q1.trans (Went.of_below hb4 own1)⟩
theorem Compose_good (hM : Mg W own m lim L) (hl : lim ≤ 65536) {f g : Int} {v : Nat} (hf : InB L.length f) (hv : v < 12) (hg : InB L.length g) (u : Int) :
    Calls Try.prog 24 #[.pointer (some ⟨m, 0, none⟩), .int .i64 f, .int .i64 v, .int .i64 g] W (RetPub (fun b => fn L f (setBit b v (fn L g b))) u own m lim L W) := by
  have HM := Lib.hid hM
  have HF := Lib.hid hf
  have HG := Lib.hid hg
  have HV : Hid (0 ≤ (v : Int) ∧ (v : Int) < 12) := Lib.hid (by omega)
  have HO := Lib.hid (fun w own1 (h' : Mg w own1 m lim L) => compose_any hl hv w own1 L f g h' hf hg (varP_ge h'.right f) (varP_ge h'.right g))
  clear hM hl hf hg hv
  go_enter Try.func24, Try.ntmps24
  go_wp2_with (first
    | (go_at_call 27; ((with_reducible refine (isB_yes M1.out HG.out).mono ?_); rintro e w2 ⟨own2, rfl, m2, q2⟩); have M2 := Lib.hid m2)
    | (go_at_call 27; ((with_reducible refine (isB_yes HM.out HF.out).mono ?_); rintro e w1 ⟨own1, rfl, m1, q1⟩); have M1 := Lib.hid m1)
    | (go_at_call 42; ((with_reducible refine (isVar_yes HV.out _).mono ?_); rintro e w8 ⟨rfl, rfl⟩))
    | (go_at_call 46; ((with_reducible refine (HO.out _ _ M2.out).mono ?_); rintro e w4 ⟨own4, L4, h4, q4, g4, x4, ev4, rfl, hev⟩)))
  go_ret2
  have hr : RetOp (fun b => fn L f (setBit b v (fn L g b))) 0 own2 m lim L w2 (.returned (.tuple #[.int .i64 x4, ev4])) w4 := ⟨own4, L4, h4, q4, g4, x4, ev4, rfl, hev⟩
  exact hr.pub (q1.trans q2) u
theorem Compose_bad (hM : Mg W own m lim L) {f v g : Int} (h : ¬ (InB L.length f ∧ (0 ≤ v ∧ v < 12) ∧ InB L.length g)) :
    Calls Try.prog 24 #[.pointer (some ⟨m, 0, none⟩), .int .i64 f, .int .i64 v, .int .i64 g] W (RetArg own m lim L W) := by
  have HM := Lib.hid hM
  by_cases hf : InB L.length f
  · by_cases hv : 0 ≤ v ∧ v < 12
    · have HF := Lib.hid hf
      have HV := Lib.hid hv
      have HG := Lib.hid (show ¬ InB L.length g from fun hg => h ⟨hf, hv, hg⟩)
      clear hM hf hv h
      go_enter Try.func24, Try.ntmps24
      go_wp2_with (first
        | (go_at_call 27; ((with_reducible refine (isB_no M1.out HG.out).mono ?_); rintro e w2 ⟨own2, rfl, m2, q2⟩); have M2 := Lib.hid m2)
        | (go_at_call 27; ((with_reducible refine (isB_yes HM.out HF.out).mono ?_); rintro e w1 ⟨own1, rfl, m1, q1⟩); have M1 := Lib.hid m1)
        | (go_at_call 42; ((with_reducible refine (isVar_yes HV.out _).mono ?_); rintro e w8 ⟨rfl, rfl⟩)))
      go_ret2
      exact ⟨own2, rfl, m2, q1.trans q2⟩
    · have HF := Lib.hid hf
      have HV := Lib.hid hv
      clear hM hf hv h
      go_enter Try.func24, Try.ntmps24
      go_wp2_with (first
        | (go_at_call 27; ((with_reducible refine (isB_yes HM.out HF.out).mono ?_); rintro e w1 ⟨own1, rfl, m1, q1⟩); have M1 := Lib.hid m1)
        | (go_at_call 42; ((with_reducible refine (isVar_no HV.out _).mono ?_); rintro e w8 ⟨rfl, rfl⟩)))
      go_ret2
      exact ⟨own1, rfl, m1, q1⟩
  · have HF := Lib.hid hf
    clear hM hf h
    go_enter Try.func24, Try.ntmps24
    go_wp2_with (first
      | (go_at_call 27; ((with_reducible refine (isB_no HM.out HF.out).mono ?_); rintro e w1 ⟨own1, rfl, m1, q1⟩); have M1 := Lib.hid m1))
    go_ret2
    exact ⟨own1, rfl, m1, q1⟩
end
end Go.Proofs.Ytdgjbbcalffbcaa
