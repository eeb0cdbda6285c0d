/- The leaf layer: both, Join, Meet. -/
import Derived.Test.YtlkbapcienjdcaaDoorLLeq
import Derived.Test.YtlkbapcienjdcaaDoorGSets
namespace Go.Proofs.YtlkbapcienjdcaaDoor
open Go.RowKit
attribute [local go_sem ↓] Go.wp_at_zero Go.wp_at_succ
section
variable {W : World} {B p bm m lim : Nat} {v : Value} {L : List Lz} {i j : Int}
/-- What a call that puts what some function makes of two zones has done. -/
def RetBo (B p bm : Nat) (v : Value) (m lim : Nat) (L : List Lz) (i j : Int) (F : Option Mat → Option Mat → Option Mat) (w : World) (e : Ending) (w' : World) : Prop :=
  ((hasN L.length i && hasN L.length j) = true ∧ RetP B p bm v m lim L (F (atZ L i) (atZ L j)) w e w') ∨ ((hasN L.length i && hasN L.length j) = false ∧ e = .returned (.tuple #[.int .i64 0, .int .i64 1]) ∧ LTab B p bm v m lim L L w' ∧ Below w.heap.size w w')
set_option maxRecDepth 100000 in
set_option maxHeartbeats 6400000 in
theorem both_join (h0 : 0 < m) (h7 : m ≤ 7) (hL : L.length ≤ 100000) (h : LTab B p bm v m lim L L W) (ht : ∀ W', Below B W W' → Tabs W') (F : Option Mat → Option Mat → Option Mat)
    (hF : ∀ x y, (∀ C, x = some C → Closed m C) → (∀ C, y = some C → Closed m C) → ∀ C, F x y = some C → Closed m C)
    (K : ∀ W' Ra Aa ca Rb Ab cb ba bb, Below W.heap.size W W' → ZRes W' ba m Ra (zoneV ((m : Int) - 1) Aa (rlen m Ra) ca) → ZRes W' bb m Rb (zoneV ((m : Int) - 1) Ab (rlen m Rb) cb) → Calls Tryd.prog 34 #[zoneV ((m : Int) - 1) Aa (rlen m Ra) ca, zoneV ((m : Int) - 1) Ab (rlen m Rb) cb] W' (RetC W' m (F Ra Rb))) :
    Calls Tryd.prog 33 #[.pointer (some ⟨p, 0, none⟩), .int .i64 i, .int .i64 j, .func (.func 34) #[] #[]] W (RetBo B p bm v m lim L i j F W) := by
  have HHi : Hid (∀ W', Below W.heap.size W W' → Calls Tryd.prog 29 #[.pointer (some ⟨p, 0, none⟩), .int .i64 i] W' (fun e w' => e = .returned (.bool (hasN L.length i)) ∧ W' = w')) := Lib.hid fun W' hb => hasL_any (h.below hb) i
  have HHj : Hid (∀ W', Below W.heap.size W W' → Calls Tryd.prog 29 #[.pointer (some ⟨p, 0, none⟩), .int .i64 j] W' (fun e w' => e = .returned (.bool (hasN L.length j)) ∧ W' = w')) := Lib.hid fun W' hb => hasL_any (h.below hb) j
  have HB0 := Lib.hid (Below.refl W.heap.size W)
  cases hi : hasN L.length i
  · rw [hi] at HHi
    have HH := Lib.hid (And.intro hi h)
    clear hi h h0 h7 hL ht K hF
    go_enter Tryd.func33, Tryd.ntmps33
    go_wp2_with (go_at_call 29; ((with_reducible refine (HHi.out _ HB0.out).mono ?_); rintro e w1 ⟨rfl, rfl⟩))
    go_ret2
    exact .inr ⟨by rw [HH.out.1]; rfl, rfl, HH.out.2, Below.refl _ _⟩
  · cases hj : hasN L.length j
    · rw [hi] at HHi
      rw [hj] at HHj
      have HH := Lib.hid (And.intro hi (And.intro hj h))
      clear hi hj h h0 h7 hL ht K hF
      go_enter Tryd.func33, Tryd.ntmps33
      go_wp2_with (first
        | (go_at_call 29; ((with_reducible refine (HHi.out _ HB0.out).mono ?_); rintro e w1 ⟨rfl, rfl⟩))
        | (go_at_call 29; ((with_reducible refine (HHj.out _ HB0.out).mono ?_); rintro e w1 ⟨rfl, rfl⟩)))
      go_ret2
      exact .inr ⟨by rw [HH.out.1, HH.out.2.1]; rfl, rfl, HH.out.2.2, Below.refl _ _⟩
    · obtain ⟨a, Ra, Aa, ca, rfl, hla, hxa, ea⟩ := at_has hi
      obtain ⟨b, Rb, Ab, cb, rfl, hlb, hxb, eb⟩ := at_has hj
      obtain ⟨g, cv, rfl⟩ := slice_own h.row (by omega)
      have HE := Lib.hid (And.intro hi (And.intro hj (And.intro ea eb)))
      rw [hi] at HHi
      rw [hj] at HHj
      have HJn : Hid (∀ W', Below W.heap.size W W' → Calls Tryd.prog 34 #[zoneV ((m : Int) - 1) Aa (rlen m Ra) ca, zoneV ((m : Int) - 1) Ab (rlen m Rb) cb] W' (RetC W' m (F Ra Rb))) := Lib.hid fun W' hb => K W' _ _ _ _ _ _ _ _ hb ((h.zs a _ hxa).below hb) ((h.zs b _ hxb).below hb)
      have hR : ∀ C, F Ra Rb = some C → Closed m C := hF Ra Rb (fun C e => by subst e; exact (zres_some (h.zs a _ hxa)).choose_spec.2.1) (fun C e => by subst e; exact (zres_some (h.zs b _ hxb)).choose_spec.2.1)
      have HPu : Hid (∀ W' A c base, Below W.heap.size W W' → ZRes W' base m (F Ra Rb) (zoneV ((m : Int) - 1) A (rlen m (F Ra Rb)) c) → Calls Tryd.prog 23 #[.pointer (some ⟨p, 0, none⟩), zoneV ((m : Int) - 1) A (rlen m (F Ra Rb)) c] W' (RetP B p bm (.slice (some ⟨g, 0, none⟩) L.length cv) m lim L (F Ra Rb) W')) := Lib.hid fun W' A c base hb z => put_in h0 h7 hL (h.below hb) hR (fun W2 hb2 => ht W2 ((hb.mono h.le).trans hb2)) (fun W1 hb1 => close_back h0 h7 (z.below hb1))
      have HLe := Lib.hid h.le
      have HB1 := Lib.hid (show Below W.heap.size W W.drew from (Below.refl _ _).drew)
      obtain ⟨s2, ⟨s3, s4⟩, s5, s6⟩ := h.two hxa hxb
      have s7 := h.tb.lt
      have ha' : (a : Int) < (L.length : Int) := by omega
      have hb' : (b : Int) < (L.length : Int) := by omega
      clear hi hj h h0 h7 ea eb hxa hxb hla hlb hL ht K hF hR
      go_enter Tryd.func33, Tryd.ntmps33
      go_wp2_with (first
        | (go_at_call 29; ((with_reducible refine (HHi.out _ HB0.out).mono ?_); rintro e w1 ⟨rfl, rfl⟩))
        | (go_at_call 29; ((with_reducible refine (HHj.out _ HB0.out).mono ?_); rintro e w1 ⟨rfl, rfl⟩)))
      go_region_with (first
        | (go_at_call 34; ((with_reducible refine (HJn.out _ HB1.out).mono ?_); rintro e w4 ⟨A4, c4, rfl, hz4, hb4⟩); have Z4 := Lib.hid hz4; have B4 := Lib.hid (HB1.out.trans (hb4.mono HB1.out.size)); clear hz4 hb4)
        | (go_at_call 23; ((with_reducible refine (HPu.out _ _ _ _ B4.out Z4.out).mono ?_); rintro e w5 ⟨v5, L5, i5, r5, rfl, hT5, hb5, hS5, hO5⟩); have T5 := Lib.hid hT5; have B5 := Lib.hid ((B4.out.mono HLe.out).trans hb5); have S5 := Lib.hid (hS5.before B4.out); have O5 := Lib.hid hO5; clear hT5 hb5 hS5 hO5))
      all_goals go_wp2_with fail
      all_goals go_ret2
      all_goals exact .inl ⟨by rw [HE.out.1, HE.out.2.1]; rfl, v5, L5, i5, r5, rfl, T5.out, B5.out, S5.out, by rw [HE.out.2.2.1, HE.out.2.2.2]; exact O5.out⟩
end
end Go.Proofs.YtlkbapcienjdcaaDoor
