/- The contract of spread: the places are doubled as soon as half of them are taken. -/
import Derived.Test.YtlddelnbjihhgaaDoorNTable
import Derived.Lib.MinMax
import Derived.Laws.MakeOwn
namespace Go.Proofs.YtlddelnbjihhgaaDoor
open Go.RowKit
attribute [local go_sem ↓] Go.wp_at_zero Go.wp_at_succ

def RetSpread (own : Nat → Prop) (p lim : Nat) (L : List Nd) (An : Option Addr) (cn : Nat) (w : World) (e : Ending) (w' : World) : Prop :=
  (∃ v, e = .returned v) ∧ ∃ (own' : Nat → Prop) (P' : Nat) (T' : Nat → Nat) (Ap' : Option Addr) (cp' : Nat), ArenaR w' own' p lim L P' T' An Ap' cn cp' ∧ Inv P' T' L (stP P') L.length ∧ (2 * L.length < P' ∧ P' ≤ 16 + 4 * L.length ∧ P' % 2 = 0) ∧ Only own w w' ∧ ∀ i, own' i → own i ∨ w.heap.size ≤ i

theorem found_lt {P : Nat} {T : Nat → Nat} {L : List Nd} {x : Nd} {s place ref : Nat} {held : Bool} (h : Found P T L x s place ref held) : place < P := by
  obtain ⟨d, hd, hp, -⟩ := h
  rw [hp]; exact Nat.mod_lt _ (by omega)
theorem ArenaR.slot {W : World} {own : Nat → Prop} {p lim P cn cp g s : Nat} {L : List Nd} {T : Nat → Nat} {An : Option Addr} (h : ArenaR W own p lim L P T An (some ⟨g, 0, none⟩) cn cp) (hs : s < P) : W.cell? ⟨g, s, none⟩ = some (.int .i64 (T s : Int)) ∧ W.frozen? ⟨g, s, none⟩ = false :=
  ⟨by rw [h.rowP.cellAt _ (by omega)]; exact placesL_at T hs, h.rowP.frozenAt s⟩
/-- The search for a node that has not come yet ends at a free place. -/
theorem found_free {P k : Nat} {T : Nat → Nat} {L : List Nd} {st : Nd → Nat} {x : Nd} {place ref : Nat} {held : Bool} (hu : Uniq L) (hI : Inv P T L st k) (hx : L[k]? = some x) (hF : Found P T L x (st x) place ref held) : held = false := by
  have hlt := found_lt hF
  obtain ⟨d, hd, hp, hS, h⟩ := hF
  rcases h with ⟨h, -⟩ | ⟨-, h1, h2⟩
  · exact h
  · have := hu ref k x h2 hx
    have := hI.1 place hlt
    omega
theorem made_table (Q : Nat) (hQ : Q ≤ 20000) : ∃ cs : Array Value, cs.toList = placesL Q (fun _ => 0) ∧ ∀ w, (Instr.makeSlice 22 (.int .i64 (Q : Int)) (.int .i64 (Q : Int))).run Tryd.prog w = .ok (.slice (some ⟨w.heap.size, 0, none⟩) Q Q) (w.alloc (.cells cs 3)) := by
  have hinfo : (Tryd.prog.info? 3).map (fun i => (i.zero, i.size, i.bytes)) = some (some (.int .i64 0), 1, 8) := by kernel_rfl
  obtain ⟨i0, hi, hz0, hz1, hz2⟩ := info_parts hinfo
  refine ⟨madeCells #[.int .i64 0] (Q * 1), ?_, fun w => ?_⟩
  · unfold madeCells placesL
    apply List.ext_getElem
    · simp
    · intro i h1 h2
      simp [Nat.mod_one]
  · have := run_makeSlice (P := Tryd.prog) w 22 3 i0 (.int .i64 0) Tryd.underlying22 hi hz0 .i64 .i64 (Q : Int) (Q : Int) (by omega) (Int.le_refl _) (by rw [hz1]; omega) (by rw [hz2]; omega) (by omega)
    rw [hz1] at this
    simpa [Value.cells] using this
section
variable {W : World} {own : Nat → Prop} {p lim P cn cp : Nat} {L : List Nd} {T : Nat → Nat} {An Ap : Option Addr}
set_option maxRecDepth 100000 in
set_option maxHeartbeats 1600000 in
theorem spread_not (h : ArenaR W own p lim L P T An Ap cn cp) (hI : Inv P T L (stP P) L.length) (hP : 2 * L.length < P) (hP4 : P ≤ 16 + 4 * L.length) (hev : P % 2 = 0) :
    Calls Tryd.prog 103 #[.pointer (some ⟨p, 0, none⟩)] W (RetSpread own p lim L An cn W) := by
  have HL := Lib.hid (fun (W1 : World) (hb : Below W.heap.size W W1) => len_any (h.below hb).c1)
  have c2 := h.c2
  have hroom := h.room
  have hfew := h.few
  have d1 : decide (2 * (L.length : Int) < (P : Int)) = true := decide_eq_true (by omega)
  have hlt : 2 * (L.length : Int) < (P : Int) := by omega
  have HA := Lib.hid (And.intro h (And.intro hI (And.intro hP (And.intro hP4 hev))))
  have hb0 := Lib.hid (Below.refl W.heap.size W).drew
  have K0 : Hid (W.drew.cell? ⟨p, 2, none⟩ = some (.slice Ap P cp)) := Lib.hid c2
  have hw : IntKind.i64.wrap (2 * (L.length : Int)) = 2 * (L.length : Int) := IntWalk.i64_in _ (by omega)
  clear h hI hP hP4 hev
  go_enter Tryd.func103, Tryd.ntmps103
  go_wp2_with fail
  go_region_held3 (fun w' => w'.cell? ⟨p, 2, none⟩ = some (.slice Ap P cp))
    (first | (with_reducible exact K0.out))
    (first
      | (go_at_call 67; ((with_reducible refine (HL.out _ hb0.out).mono ?_); rintro e w1 ⟨rfl, rfl⟩)))
  go_wp2_with fail
  go_end0
  exact ⟨⟨_, rfl⟩, own, P, T, Ap, cp, HA.out.1.below hb0.out, HA.out.2.1, HA.out.2.2, Only.of_below hb0.out own, fun i hi => .inl hi⟩
set_option maxRecDepth 100000 in
set_option maxHeartbeats 1600000 in
theorem spread_yes (h : ArenaR W own p lim L P T An Ap cn cp) (hu : RightL L) (hP : P = 2 * L.length) (hl : 2 * (2 * L.length) ≤ 20000) :
    Calls Tryd.prog 103 #[.pointer (some ⟨p, 0, none⟩)] W (RetSpread own p lim L An cn W) := by
  have HL := Lib.hid (fun (W1 : World) (hb : Below W.heap.size W W1) => len_any (h.below hb).c1)
  have c2 := h.c2
  have c1 := h.c1
  have f2 := h.blk.frozen 2
  have hroom := h.room
  have hfew := h.few
  have hplt := h.blk.lt
  have hlt : ¬ (2 * (L.length : Int) < (P : Int)) := by omega
  have d1 : decide (2 * (L.length : Int) < (P : Int)) = false := decide_eq_false hlt
  have HA := Lib.hid h
  have HU := Lib.hid hu
  have HP := Lib.hid hP
  have hb0 := Lib.hid (Below.refl W.heap.size W).drew
  have K0 : Hid (W.drew.cell? ⟨p, 2, none⟩ = some (.slice Ap P cp)) := Lib.hid c2
  obtain ⟨Q, hQ⟩ : ∃ Q : Nat, max (16 : Int) (2 * (P : Int)) = (Q : Int) := ⟨max 16 (2 * P), by omega⟩
  have hQ2 : Q ≤ 20000 := by omega
  have hQ3 : 2 * L.length < Q ∧ Q ≤ 16 + 4 * L.length ∧ Q % 2 = 0 := by omega
  have HQ3 := Lib.hid hQ3
  obtain ⟨cs, hcs, hmk⟩ := made_table Q hQ2
  have hT := h.table hcs hQ2
  have eT : (W.alloc (.cells cs 3)).setCell ⟨p, 2, none⟩ (.slice (some ⟨W.heap.size, 0, none⟩) Q Q) = (W.setCell ⟨p, 2, none⟩ (.slice (some ⟨W.heap.size, 0, none⟩) Q Q)).alloc (.cells cs 3) := by go_simp
  rw [eT] at hT
  have HT := Lib.hid hT
  have HCS := Lib.hid hcs
  have hw : IntKind.i64.wrap (2 * (L.length : Int)) = 2 * (L.length : Int) := IntWalk.i64_in _ (by omega)
  clear h hu hP hQ3 hcs hT eT
  go_enter Tryd.func103, Tryd.ntmps103
  go_wp2_with fail
  go_region_held3 (fun w' => w'.cell? ⟨p, 2, none⟩ = some (.slice Ap P cp))
    (first | (with_reducible exact K0.out))
    (first
      | (go_at_call 67; ((with_reducible refine (HL.out _ hb0.out).mono ?_); rintro e w1 ⟨rfl, rfl⟩)))
  go_wp2_with fail
  go_loopg [32] L.length (fun gk t32 wr => ∃ (k : Nat) (T' : Nat → Nat), k + gk = L.length ∧ t32 = .int .i64 (k : Int) ∧ ArenaR wr (fun i => own i ∨ i = W.heap.size) p lim L Q T' An (some ⟨W.heap.size, 0, none⟩) cn Q ∧ Inv Q T' L (stP Q) k ∧ Only own W wr)
  case atStart => exact ⟨0, fun _ => 0, by omega, rfl, HT.out.1.below (Below.refl _ _).drew, inv_none _ _ _, HT.out.2.then_below (Below.refl _ _).drew⟩
  case round =>
    obtain ⟨k, T', hk, rfl, hR, hI, hO⟩ := hrel
    have c2w := hR.c2
    have HR := Lib.hid hR
    have HI := Lib.hid hI
    have HO := Lib.hid hO
    have HK := Lib.hid hk
    clear c2 c1 f2 K0
    by_cases hkn : k < L.length
    · have hx : L[k]? = some L[k] := List.getElem?_eq_getElem hkn
      obtain ⟨gn, hAn, -, n0, n1, n2⟩ := hR.node hx
      obtain ⟨x, hxx⟩ : ∃ x, x = L[k] := ⟨_, rfl⟩
      rw [← hxx] at hx n0 n1 n2
      have HX := Lib.hid hx
      have HF := Lib.hid (find_any (v := x.1) (l := x.2.1) (h := x.2.2) (hR.below ((Below.refl _ wr).alloc (Nat.le_refl _) (.cells #[.int .i64 x.1, .int .i64 x.2.1, .int .i64 x.2.2] 106))) (by have := HQ3.out; omega) (fun s hs => by have := hI.1 s hs; omega) (inv_free hI (by have := HQ3.out; omega)))
      subst hAn
      clear hR hI hO hk hx hxx
      go_wp2_with (first
        | (go_at_call 104; ((with_reducible refine HF.out.mono ?_); rintro e w3 ⟨place, ref, held, rfl, hfd, hb3⟩); have hpl := found_lt hfd; have HR3 := Lib.hid ((HR.out.below ((Below.refl _ wr).alloc (Nat.le_refl _) (.cells #[.int .i64 x.1, .int .i64 x.2.1, .int .i64 x.2.2] 106))).below hb3); have e2 := HR3.out.c2; obtain ⟨e3, e4⟩ := HR3.out.slot hpl; have HFd := Lib.hid hfd; have HB3 := Lib.hid hb3; clear hfd hb3))
      have hk := HK.out
      go_roundg (gk - 1)
      case measure => omega
      case rel =>
        have hheld := found_free HU.out.2 HI.out HX.out HFd.out
        subst hheld
        have hput := HR3.out.put hpl (k + 1)
        refine ⟨k + 1, putT T' place (k + 1), by omega, by simp, ?_, found_put HI.out HFd.out HX.out, ?_⟩
        · have := hput.1
          simpa using this
        · have hO3 := (HO.out.then_below ((Below.refl _ wr).alloc (Nat.le_refl _) (.cells #[.int .i64 x.1, .int .i64 x.2.1, .int .i64 x.2.2] 106))).then_below HB3.out
          have := hO3.trans hput.2 (fun i hi => hi.imp id (fun e => by omega))
          simpa using this
    · have hke : k = L.length := by have := HK.out; omega
      subst hke
      go_wp2_with fail
      go_end0
      exact ⟨⟨_, rfl⟩, _, Q, T', _, Q, HR.out, HI.out, HQ3.out, HO.out, fun i hi => hi.imp id (fun e => by omega)⟩
end
end Go.Proofs.YtlddelnbjihhgaaDoor
