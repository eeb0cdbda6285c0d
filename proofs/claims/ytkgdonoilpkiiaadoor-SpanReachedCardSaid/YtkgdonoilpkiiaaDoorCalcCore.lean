/- Calc of spans, where something is reckoned: over whatever parts. -/
import Derived.Test.YtkgdonoilpkiiaaDoorCorners
import Derived.Test.YtkgdonoilpkiiaaDoorJoin
import Derived.Test.YtkgdonoilpkiiaaDoorWalks
import Derived.Test.YtkgdonoilpkiiaaDoorSteps
import Derived.Laws.AppendOwnNone
import Derived.Laws.OwnMore
import Derived.OwnWalk
namespace Go.Proofs.YtkgdonoilpkiiaaDoor
open Go.RowKit
attribute [local go_sem ↓] Go.wp_at_zero Go.wp_at_succ eq24 eq23 neq24 eqg24 eqg23

/-- A span and a bool are handed back; what was there is as it was. -/
def RetCalc (l h : Int) (b : Bool) (w : World) (e : Ending) (w' : World) : Prop := e = .returned (.tuple #[.agg #[.int .i64 l, .int .i64 h], .bool b]) ∧ Below w.heap.size w w'

/-- A slice of n spans, p 0 and on, that lies in memory. -/
def Parts (w : World) (g n : Nat) (pc pd : Nat → Int) : Prop := g < w.heap.size ∧ ∀ k, k < n → w.cell? ⟨g, k * 2, none⟩ = some (.int .i64 (pc k)) ∧ w.cell? ⟨g, k * 2 + 1, none⟩ = some (.int .i64 (pd k))
theorem Parts.below {w w' : World} {g n : Nat} {pc pd : Nat → Int} (h : Parts w g n pc pd) (hb : Below w.heap.size w w') : Parts w' g n pc pd :=
  ⟨by have := hb.size; have := h.1; omega, fun k hk => ⟨by rw [(bcell hb).1 _ _ h.1]; exact (h.2 k hk).1, by rw [(bcell hb).1 _ _ h.1]; exact (h.2 k hk).2⟩⟩
def RetParts (n : Nat) (pc pd : Nat → Int) (w : World) (e : Ending) (w' : World) : Prop :=
  ∃ g : Nat, e = .returned (.slice (some ⟨g, 0, none⟩) n n) ∧ Parts w' g n pc pd ∧ Below w.heap.size w w'

/-- What the corners of each part are. -/
def EndsOf (C : Nat → List Int) : Nat → List Int
  | 0 => []
  | k + 1 => EndsOf C k ++ C k
theorem info3 : (Tryd.prog.info? 3).map (fun i => (i.zero, i.size, i.bytes)) = some (some (.int .i64 0), 1, 8) := by kernel_rfl

/-- An owned row of numbers reads as a slice of numbers. -/
theorem ints_of_own {w : World} {base : Nat} {v : Value} {xs : List Int} (h : w.ownsRow base 3 1 v xs.length (xs.map (Value.int .i64))) :
    ∃ (A : Option Addr) (cap : Nat), v = .slice A xs.length cap ∧ xs.length ≤ cap ∧ Ints w A xs.length (fun j => xs.getD j 0) := by
  have h' := h
  obtain ⟨hl, ⟨rfl, h0⟩ | ⟨g, cap, cur, rfl, hb, hcur, hn, hm, hs, ht⟩⟩ := h
  · exact ⟨none, 0, by rw [h0], by omega, fun hp => absurd hp (by omega)⟩
  · refine ⟨some ⟨g, 0, none⟩, cap, rfl, hn, fun _ => ⟨g, 0, rfl, ?_, fun j hj => ?_⟩⟩
    · rcases Nat.lt_or_ge g w.heap.size with hlt | hge
      · exact hlt
      · rw [Array.getElem?_eq_none hge] at hcur; cases hcur
    · have := h'.cellAt j (by omega)
      rw [Nat.zero_add, this, List.getElem?_map, List.getElem?_eq_getElem hj]
      simp [List.getD, List.getElem?_eq_getElem hj]
theorem hull_ints (f : Nat → Int) (A : Option Addr) (n cap : Nat) (w : World) (hn : n ≤ cap) (hz : n ≤ 4611686018427387904) (h : Ints w A n f) : Calls Tryd.prog 17 #[.slice A n cap] w (RetSpan (hullL f n) (hullH f n) w) := by
  match n with
  | 0 => exact hull_none A cap w
  | m + 1 =>
    obtain ⟨b, off, rfl, hb, hc⟩ := h (by omega)
    exact hull_any f b off (m + 1) cap w hn hz (fun _ => hb) hc

theorem own_below {w w' : World} {base : Nat} {e : TypeId} {size n : Nat} {v : Value} {xs : List Value} (h : w.ownsRow base e size v n xs) (hb : Below w.heap.size w w') : w'.ownsRow base e size v n xs :=
  h.kept (row := none) ⟨hb.os, hb.tape, hb.output, hb.size, fun i hi _ => hb.block i hi⟩ (by cases v.ownBlock <;> simp)
theorem ends_len {C : Nat → List Int} (h : ∀ k, (C k).length ≤ 4) (k : Nat) : (EndsOf C k).length ≤ 4 * k := by
  induction k with
  | zero => simp [EndsOf]
  | succ k ih => unfold EndsOf; rw [List.length_append]; have := h k; omega
theorem gather_below {w2 wr w3 : World} {o : Obj} (hnx : Below w2.heap.size w2 wr) (hb3 : Below (wr.alloc o).heap.size (wr.alloc o) w3) : Below w2.heap.size w2 w3 :=
  (hnx.alloc hnx.size o).trans (hb3.mono (by have := hnx.size; simp; omega))
theorem gather_none {w2 wr w3 : World} {C : Nat → List Int} {k : Nat} {v : Value} {o : Obj} (hnx : Below w2.heap.size w2 wr) (hown : wr.ownsRow w2.heap.size 3 1 v (EndsOf C k).length ((EndsOf C k).map (Value.int .i64))) (hC : C k = [])
    (hb3 : Below (wr.alloc o).heap.size (wr.alloc o) w3) : w3.ownsRow w2.heap.size 3 1 v (EndsOf C (k + 1)).length ((EndsOf C (k + 1)).map (Value.int .i64)) ∧ Below w2.heap.size w2 w3 := by
  refine ⟨?_, gather_below hnx hb3⟩
  unfold EndsOf
  rw [hC, List.append_nil]
  exact own_below (hown.alloc o) hb3
theorem gather_more {w2 wr w3 w4 : World} {C : Nat → List Int} {k : Nat} {v v' : Value} {o : Obj} {p q r s : Int} (hnx : Below w2.heap.size w2 wr) (hown : wr.ownsRow w2.heap.size 3 1 v (EndsOf C k).length ((EndsOf C k).map (Value.int .i64))) (hC : C k = [p, q, r, s])
    (hb3 : Below (wr.alloc o).heap.size (wr.alloc o) w3) (hown' : w4.ownsRow w2.heap.size 3 1 v' ((EndsOf C k).length + 4) ((EndsOf C k).map (Value.int .i64) ++ [.int .i64 p, .int .i64 q, .int .i64 r, .int .i64 s])) (hgrow : w3.grownBy w4 v.ownBlock) :
    w4.ownsRow w2.heap.size 3 1 v' (EndsOf C (k + 1)).length ((EndsOf C (k + 1)).map (Value.int .i64)) ∧ Below w2.heap.size w2 w4 := by
  refine ⟨?_, (gather_below hnx hb3).grown hgrow (gather_below hnx hb3).size (fun g hg => (hown.lt g hg).1)⟩
  unfold EndsOf
  rw [hC, List.length_append, List.map_append]
  exact hown'
theorem news4 {w : World} {g : Nat} {p q r s : Int} (h : Row4 w g p q r s) : ∀ j u, ([.int .i64 p, .int .i64 q, .int .i64 r, .int .i64 s] : List Value)[j]? = some u → w.cell? ((⟨g, 0, none⟩ : Addr).add j) = some u := by
  obtain ⟨-, h0, h1, h2, h3⟩ := h
  intro j u hj
  match j, hj with
  | 0, hj => simp at hj; subst hj; exact h0
  | 1, hj => simp at hj; subst hj; exact h1
  | 2, hj => simp at hj; subst hj; exact h2
  | 3, hj => simp at hj; subst hj; exact h3
  | j + 4, hj => simp at hj
theorem one4 (p q r s : Int) : ∀ u ∈ ([.int .i64 p, .int .i64 q, .int .i64 r, .int .i64 s] : List Value), u.oneCell' = true := by
  intro u hu
  simp at hu
  rcases hu with rfl | rfl | rfl | rfl <;> rfl

/-- Is one of the first numbers no whole number? -/
def wrB (f : Nat → Int) (W0 : Bool) : Nat → Bool
  | 0 => W0
  | k + 1 => wrB f W0 k || !inB (f k)
theorem wrB_yes {f : Nat → Int} {W0 : Bool} {k : Nat} (h : wrB f W0 k = true) : wrB f W0 (k + 1) = true := by show (wrB f W0 k || !inB (f k)) = true; rw [h]; rfl
theorem wrB_no {f : Nat → Int} {W0 : Bool} {k : Nat} (h : wrB f W0 k = false) : wrB f W0 (k + 1) = !inB (f k) := by show (wrB f W0 k || !inB (f k)) = _; rw [h]; rfl

/-- What the loop over the parts has gathered. -/
def Gathered (w2 : World) (C : Nat → List Int) (n : Nat) (v i : Value) (wr : World) : Prop :=
  ∃ k : Nat, k ≤ n ∧ i = .int .i64 k ∧ wr.ownsRow w2.heap.size 3 1 v (EndsOf C k).length ((EndsOf C k).map (Value.int .i64)) ∧ Below w2.heap.size w2 wr

set_option maxRecDepth 100000 in
set_option maxHeartbeats 3200000 in
theorem scalc_some (op a b c d : Int) (w : World) (n : Nat) (pc pd : Nat → Int) (C : Nat → List Int) (hn2 : n ≤ 2)
    (ha : noneS a b = false) (hcn : noneS c d = false) (o1 : decide (op < 0) = false) (o2 : decide (3 < op) = false)
    (hC4 : ∀ k, (C k).length ≤ 4)
    (hcase : ∀ k, k < n → (C k = [] ∧ ∀ w, Calls Tryd.prog 14 #[.int .i64 op, .agg #[.int .i64 a, .int .i64 b], .agg #[.int .i64 (pc k), .int .i64 (pd k)]] w fun e w' => e = .returned (.slice none 0 0) ∧ Below w.heap.size w w') ∨
      ∃ p q r s, C k = [p, q, r, s] ∧ ∀ w, Calls Tryd.prog 14 #[.int .i64 op, .agg #[.int .i64 a, .int .i64 b], .agg #[.int .i64 (pc k), .int .i64 (pd k)]] w (RetRow 4 p q r s w))
    (f : Nat → Int) (m : Nat) (W0 : Bool) (hf : f = fun j => (EndsOf C n).getD j 0) (hm : m = (EndsOf C n).length) (hw : ((op == 3) = false ∧ W0 = false) ∨ ((op == 3) = true ∧ hasS c d 0 = W0))
    (hp : ∀ w, Calls Tryd.prog 13 #[.int .i64 op, .agg #[.int .i64 c, .int .i64 d]] w (RetParts n pc pd w)) :
    Calls Tryd.prog 5 #[.int .i64 op, .agg #[.int .i64 a, .int .i64 b], .agg #[.int .i64 c, .int .i64 d]] w (RetCalc (hullL f m) (hullH f m) (wrB f W0 m) w) := by
  have ea := noneS_no ha
  have ec := noneS_no hcn
  have h1 : sameB a b 1 0 = false := by unfold noneS at ha; rw [ea.2.2.2.1, ea.2.2.2.2.1] at ha; exact ha
  have h2 : sameB c d 1 0 = false := by unfold noneS at hcn; rw [ec.2.2.2.1, ec.2.2.2.2.1] at hcn; exact hcn
  have HP := Lib.hid hp
  have HT := Lib.hid (show tkL a b = a ∧ tkH a b = b ∧ tkL c d = c ∧ tkH c d = d from ⟨ea.2.2.2.1, ea.2.2.2.2.1, ec.2.2.2.1, ec.2.2.2.2.1⟩)
  have HL := Lib.hid (ends_len hC4)
  have HQ := Lib.hid hcase
  have HF := Lib.hid hf
  have HM := Lib.hid hm
  have HW := Lib.hid hw
  have hm8 : m ≤ 8 := by rw [hm]; have := ends_len hC4 n; omega
  clear hp ea ec ha hcn hcase hC4 hf hm hw
  obtain ⟨i0, hi, hi0, hi1, hi2⟩ := info_parts info3
  go_enter Tryd.func5, Tryd.ntmps5
  go_upto_region 1 with fail
  go_cut [] (fun wx => Boxes w wx a b c d 0 0)
  case first =>
    go_region_with (first | (go_at_call 12; ((with_reducible refine (taken_any _ _ _).mono ?_); rintro e w1 ⟨rfl, hb1⟩); obtain ⟨hc, hf⟩ := bcell hb1; obtain ⟨z0, z1, z2⟩ := three_sz (n := w.heap.size) hb1 (by first | omega | (simp; omega) | (simp; done))))
    all_goals go_wp2_with fail
    all_goals go_meet
    all_goals
      rw [HT.out.1, HT.out.2.1, HT.out.2.2.1, HT.out.2.2.2]
      exact boxes_taken (by assumption) (by assumption) _ _ _ _
  case rest =>
    have HX := Lib.hid hcut
    obtain ⟨⟨z0, p0, p1, f0, f1⟩, ⟨z1, q0, q1, g0, g1⟩, ⟨z2, r0, r1, e0, e1⟩, -⟩ := hcut
    go_wp2_with fail
    go_region_held3 (fun w' => w.heap.size + 1 < w'.heap.size ∧ w'.cell? ⟨w.heap.size, 0, none⟩ = some (.int .i64 a) ∧ w'.cell? ⟨w.heap.size, 1, none⟩ = some (.int .i64 b) ∧ w'.cell? ⟨w.heap.size + 1, 0, none⟩ = some (.int .i64 c) ∧ w'.cell? ⟨w.heap.size + 1, 1, none⟩ = some (.int .i64 d)) (first | (exact keep_two hb1 (by assumption)) | go_keep)
      (first | (go_at_call 9; ((with_reducible refine (empty_any _).mono ?_); rintro e w1 ⟨rfl, hb1⟩)))
    have HX1 : Hid (Boxes w w1 a b c d 0 0) := Lib.hid ((HX.out.drew.below (by assumption)).below hb1)
    clear z0 p0 p1 f0 f1 z1 q0 q1 g0 g1 z2 r0 r1 e0 e1
    obtain ⟨⟨z0, p0, p1, f0, f1⟩, ⟨z1, q0, q1, g0, g1⟩, ⟨z2, r0, r1, e0, e1⟩, -⟩ := HX1.out
    go_wp2_with (first | (go_at_call 13; ((with_reducible refine (HP.out _).mono ?_); rintro e w2 ⟨g, rfl, hP, hb2⟩)))
    have HX2 := Lib.hid (HX1.out.below hb2)
    have HP2 := Lib.hid hP
    clear hP hb2 z0 p0 p1 f0 f1 z1 q0 q1 g0 g1 z2 r0 r1 e0 e1
    go_loopw [8, 39] (fun v i wr => Gathered w2 C n v i wr) (fun _ i _ => n - (intOf i).toNat)
    case atStart => exact ⟨0, Nat.zero_le _, rfl, World.ownsRow_nil _ _ _ _, Below.refl _ _⟩
    case round =>
      obtain ⟨k, hk, rfl, hown, hnx⟩ := hrel
      have HO := Lib.hid hown
      have HN := Lib.hid hnx
      obtain ⟨⟨z0, p0, p1, f0, f1⟩, ⟨z1, q0, q1, g0, g1⟩, ⟨z2, r0, r1, e0, e1⟩, -⟩ := HX2.out.below hnx
      clear hown hnx
      by_cases hlt : k < n
      · obtain ⟨c0, c1⟩ := (HP2.out.below HN.out).2 k hlt
        have hlen := HL.out k
        rcases HQ.out k hlt with ⟨hC, hco⟩ | ⟨p, q, r, s, hC, hco⟩
        · have HC := Lib.hid hC
          have HK := Lib.hid hco
          clear hC hco
          go_wp2_with (first
            | (go_at_call 14; ((with_reducible refine (HK.out _).mono ?_); rintro e w3 ⟨rfl, hb3⟩); have HB3 := Lib.hid hb3; clear hb3)
            | (at_builtin; refine wpList_append_own_none rfl (.tmp 43) (.tmp 47) 33 rfl w2.heap.size 3 i0 1 Tryd.underlying33 hi _ _ _ rfl (own_below (HO.out.alloc _) HB3.out) rfl ?_))
          go_roundw
          case rel =>
            obtain ⟨R1, R2⟩ := gather_none HN.out HO.out HC.out HB3.out
            exact ⟨k + 1, by omega, by go_num, R1, R2⟩
          case measure => simp [intOf]; omega
        · have HC := Lib.hid hC
          have HK := Lib.hid hco
          clear hC hco
          go_wp2_with (first
            | (go_at_call 14; ((with_reducible refine (HK.out _).mono ?_); rintro e w3 ⟨g3, rfl, -, hrow, hb3⟩); have HB3 := Lib.hid hb3; have HR3 := Lib.hid hrow; clear hb3 hrow)
            | (at_builtin; refine wpList_append_own _ rfl (.tmp 43) (.tmp 47) 33 rfl w2.heap.size 3 i0 (.int .i64 0) 1 8 Tryd.underlying33 hi hi0 hi1 hi2 rfl (by decide) _ _ _ rfl (own_below (HO.out.alloc _) HB3.out) ⟨g3, 0, none⟩ 4 4 [.int .i64 p, .int .i64 q, .int .i64 r, .int .i64 s] rfl rfl (news4 HR3.out) (one4 p q r s) (by unfold maxLen; omega) (by omega) (gather_below HN.out HB3.out).size ?_; intro v' w4 hown' hgrow _; have HO4 := Lib.hid (gather_more HN.out HO.out HC.out HB3.out hown' hgrow); clear hown' hgrow))
          go_roundw
          case rel => exact ⟨k + 1, by omega, by go_num, HO4.out.1, HO4.out.2⟩
          case measure => simp [intOf]; omega
      · obtain rfl : k = n := by omega
        obtain ⟨A, cap, hv, hcap, hI⟩ := ints_of_own HO.out
        rw [← HF.out] at hI
        rw [← HM.out] at hv hcap hI
        subst hv
        have HI := Lib.hid hI
        have HXr := Lib.hid (HX2.out.below HN.out)
        clear hI
        rcases HW.out with ⟨hop, hW0⟩ | ⟨hop, hW0⟩
        · subst hW0
          go_wp2_with fail
          go_loop [11, 58] (fun t i => ∃ j : Nat, j ≤ m ∧ i = .int .i64 j ∧ t = .bool (wrB f false j)) (fun _ i => m - (intOf i).toNat)
          case atStart => exact ⟨0, Nat.zero_le _, rfl, rfl⟩
          case round =>
            obtain ⟨j, hj, rfl, rfl⟩ := hrel
            by_cases hjm : j < m
            · obtain ⟨b', off, rfl, hbl, hcells⟩ := HI.out (by omega)
              have hcell := hcells j hjm
              clear hcells
              cases hW : wrB f false j
              · have HR := Lib.hid (wrB_no hW)
                go_wp2_with (first | (go_at_call 16; ((with_reducible refine (in_any _ _).mono ?_); rintro e w' ⟨rfl, rfl⟩)))
                go_round
                case rel => exact ⟨j + 1, by omega, by go_num, by rw [HR.out]⟩
                case measure => simp [intOf]; omega
              · have HR := Lib.hid (wrB_yes hW)
                go_wp2_with fail
                go_round
                case rel => exact ⟨j + 1, by omega, by go_num, by rw [HR.out]⟩
                case measure => simp [intOf]; omega
            · obtain rfl : j = m := by omega
              go_wp2_with (first | (go_at_call 17; ((with_reducible refine (hull_ints f A j cap _ hcap (by omega) HI.out).mono ?_); rintro e w5 ⟨rfl, hb5⟩); have HX5 := Lib.hid (HXr.out.below hb5); obtain ⟨-, -, ⟨-, y0, y1, y2, y3⟩, -⟩ := HX5.out))
              refine bodyPost_ret (v := .tuple #[.agg #[.int .i64 (hullL f j), .int .i64 (hullH f j)], .bool (wrB f false j)]) (by simp [results, Tryd.results5, go_sem, y0, y1]) rfl ⟨rfl, ?_⟩
              exact HX5.out.out _ _
        · go_wp2_with (first | (go_at_call 15; ((with_reducible refine (has_any c d 0 _).mono ?_); rintro e w4 ⟨rfl, hb4⟩); have HI4 := Lib.hid (HI.out.below hb4); have HX4 := Lib.hid (HXr.out.below hb4); clear z0 p0 p1 f0 f1 z1 q0 q1 g0 g1 z2 r0 r1 e0 e1; obtain ⟨⟨z0, p0, p1, f0, f1⟩, ⟨z1, q0, q1, g0, g1⟩, ⟨z2, r0, r1, e0, e1⟩, -⟩ := HX4.out))

          go_loop [11, 58] (fun t i => ∃ j : Nat, j ≤ m ∧ i = .int .i64 j ∧ t = .bool (wrB f W0 j)) (fun _ i => m - (intOf i).toNat)
          case atStart => exact ⟨0, Nat.zero_le _, rfl, rfl⟩
          case round =>
            obtain ⟨j, hj, rfl, rfl⟩ := hrel
            by_cases hjm : j < m
            · obtain ⟨b', off, rfl, hbl, hcells⟩ := HI4.out (by omega)
              have hcell := hcells j hjm
              clear hcells
              cases hW : wrB f W0 j
              · have HR := Lib.hid (wrB_no hW)
                go_wp2_with (first | (go_at_call 16; ((with_reducible refine (in_any _ _).mono ?_); rintro e w' ⟨rfl, rfl⟩)))
                go_round
                case rel => exact ⟨j + 1, by omega, by go_num, by rw [HR.out]⟩
                case measure => simp [intOf]; omega
              · have HR := Lib.hid (wrB_yes hW)
                go_wp2_with fail
                go_round
                case rel => exact ⟨j + 1, by omega, by go_num, by rw [HR.out]⟩
                case measure => simp [intOf]; omega
            · obtain rfl : j = m := by omega
              go_wp2_with (first | (go_at_call 17; ((with_reducible refine (hull_ints f A j cap _ hcap (by omega) HI4.out).mono ?_); rintro e w5 ⟨rfl, hb5⟩); have HX5 := Lib.hid (HX4.out.below hb5); obtain ⟨-, -, ⟨-, y0, y1, y2, y3⟩, -⟩ := HX5.out))
              refine bodyPost_ret (v := .tuple #[.agg #[.int .i64 (hullL f j), .int .i64 (hullH f j)], .bool (wrB f W0 j)]) (by simp [results, Tryd.results5, go_sem, y0, y1]) rfl ⟨rfl, ?_⟩
              exact HX5.out.out _ _
end Go.Proofs.YtkgdonoilpkiiaaDoor
