/- The parse layer: a block. -/
import Derived.Test.YteaongdlbleehaaGreatDoorPsSt5
import Derived.Test.YteaongdlbleehaaGreatDoorGPsMath
import Derived.Deep.LoopGhost
import Derived.Deep.CutBlock
import Derived.Deep.DeepCutAuto
namespace Go.Proofs.YteaongdlbleehaaGreatDoor
open Go.RowKit
section
variable {B b len k n : Nat} {M : Value} {s : PS} {w : World}
theorem ps_tinfo : (Tryz.prog.info? 116).map (fun i => (i.zero, i.size, i.bytes)) = some (some (.agg #[.string ⟨#[]⟩, .string ⟨#[]⟩, .slice none 0 0, .slice none 0 0, .slice none 0 0, .int .i64 0]), 6, 112) := by kernel_rfl
theorem ps_news {w : World} {g : Nat} {t : TypeId} {a b c d e f : Value} (h : Blk w g t #[a, b, c, d, e, f]) : ∀ (j : Nat) (u : Value), [a, b, c, d, e, f][j]? = some u → w.cell? ((⟨g, 0, none⟩ : Addr).add j) = some u := fun j u hu => by
  rw [Addr.add_lit, Nat.zero_add]
  exact (h.cell j).trans (by simpa using hu)
theorem ps_one (a b : ByteArray) (A A1 A2 : Option Addr) (n n1 n2 cap cap1 cap2 : Nat) (d : Int) : ∀ u ∈ [Value.string a, Value.string b, Value.slice A n cap, Value.slice A1 n1 cap1, Value.slice A2 n2 cap2, Value.int .i64 d], u.oneCell' = true := by
  intro u hu
  simp at hu
  rcases hu with rfl | rfl | rfl | rfl | rfl | rfl <;> rfl
theorem Par.grown {w' : World} {row : Option Nat} {d : Nat} (h : Par B b len M k d s w) (hg : w.grownBy w' row) (hr : ∀ g, row = some g → b < g) : Par B b len M k d s w' := by
  obtain ⟨A, cap, h1, h2, h3, h4⟩ := h.mem
  have hk : ∀ g, g ≤ b → w'.heap[g]? = w.heap[g]? := fun g hgb => hg.block g (Nat.lt_of_le_of_lt hgb h1.lt) (fun e => by have := hr g e.symm; omega)
  exact ⟨h.lo, h.hl, h.tb, h.ab, h.good, h.mp.keep fun g hg2 => hk g (Nat.le_trans (Nat.le_of_lt hg2) h.lo), A, cap, (hk b (Nat.le_refl _)).trans h1, h2, h3, h4.keep fun p hp => World.cell?_of_block (hk p.block (Nat.le_trans (Nat.le_of_lt hp) h.lo))⟩
theorem Pd.grown {w1 w2 : World} {row : Option Nat} (h : Pd b w w1) (hg : w1.grownBy w2 row) (hr : ∀ g, row = some g → w.heap.size ≤ g) : Pd b w w2 :=
  ⟨hg.os.trans h.os, hg.tape.trans h.tape, hg.output.trans h.output, Nat.le_trans h.size hg.size, fun i hi hb => (hg.block i (Nat.lt_of_lt_of_le hi h.size) (fun e => by have := hr i e.symm; omega)).trans (h.block i hi hb)⟩
theorem OwnL.pd {α : Type} {κ : Kind α} {T : TypeId} {j base : Nat} {w w' : World} {v : Value} {l : List α} (h : OwnL κ T j base w v l) (hd : Pd b w w') (hb : b < base) : OwnL κ T j base w' v l := by
  obtain ⟨css, h1, h2, h3⟩ := h
  refine ⟨css, h1, ⟨h2.1, ?_⟩, fun i x cs hx hc => ⟨(h3 i x cs hx hc).1, ?_⟩⟩
  · rcases h2.2 with q | ⟨g, cap, cur, e1, e2, e3, r⟩
    · exact .inl q
    · exact .inr ⟨g, cap, cur, e1, e2, (hd.block g (Array.getElem?_eq_some_iff.1 e3).1 (by omega)).trans e3, r⟩
  · exact κ.mono (fun b q => ⟨q.1, Nat.lt_of_lt_of_le q.2.1 hd.size, q.2.2⟩) (κ.kept (fun g q => hd.block g q.2.1 (by omega)) (h3 i x cs hx hc).2)
theorem OwnL.upS {m j base : Nat} {T : TypeId} {v : Value} {l : List St} (h : OwnL (kSt n) T j base w v l) (hn : n ≤ m) : OwnL (kSt m) T j base w v l := by
  obtain ⟨css, h1, h2, h3⟩ := h
  refine ⟨css, h1, h2, fun i x cs hx hc => ⟨(h3 i x cs hx hc).1, ?_⟩⟩
  obtain ⟨LE, LA, LB, e1, e2, e3, e4, e5⟩ := (h3 i x cs hx hc).2
  exact ⟨LE, LA, LB, e1, e2, e3.le hn, e4.le hn, e5.le hn⟩
/-- What stands at each round of a block. -/
def BkI (B b len : Nat) (M : Value) (k : Nat) (w : World) (blk : PS → PS × List St) (R : PS × List St) (gk : Nat) (v : Value) (wr : World) : Prop :=
  ∃ s l n g, msr s ≤ gk ∧ msr s + 1 ≤ g ∧ l.length + msr s ≤ 4097 ∧ (s.no = 0 → k ≤ 15) ∧ Par B b len M (k + 1) 0 s wr ∧ Pd b w wr ∧ OwnL (kSt n) 116 6 w.heap.size wr v l ∧ rowsS len blk g s l = R
set_option maxHeartbeats 6400000 in
set_option maxRecDepth 100000 in
theorem pblock_step {f : Nat} (hk17 : k ≤ 17) (hblk : BlkC B b len M (k + 1) (blkS len f (k + 1))) : BlkC B b len M k (blkS len (f + 1) k) := by
  intro s w h hk
  obtain ⟨blk, hb⟩ : ∃ q, q = blkS len f (k + 1) := ⟨_, rfl⟩
  have HBl : Hid (∀ s, (blk s).1.ts.length ≤ s.ts.length) := Lib.hid (by rw [hb]; exact blk_len f (k + 1))
  have HBlk : Hid (BlkC B b len M (k + 1) blk) := Lib.hid (by rw [hb]; exact hblk)
  obtain ⟨s0, hs0⟩ : ∃ q, q = openS len k s := ⟨_, rfl⟩
  obtain ⟨R, hR⟩ : ∃ q, q = rowsS len blk (s0.ts.length + 2) s0 [] := ⟨_, rfl⟩
  have HRes : Hid (blkS len (f + 1) k s = (expF len [125] R.1, R.2)) := Lib.hid (by rw [hR, hs0, hb]; rfl)
  have HR := Lib.hid hR
  have HNo : Hid (s0.no = 0 → k ≤ 15) := Lib.hid (by rw [hs0]; exact open_no)
  have hw4 : IntKind.i64.wrap ((k : Int) + 1) = (k : Int) + 1 := IntWalk.i64_in _ (by omega)
  have hw5 : IntKind.i64.wrap ((k : Int) + 1 - 1) = (k : Int) := (IntWalk.i64_in _ (by omega)).trans (by omega)
  have hw6 : IntKind.i64.wrap (k : Int) = (k : Int) := IntWalk.i64_in _ (by omega)
  have HG : Hid (b < w.heap.size) := Lib.hid h.lt
  have HP := Lib.hid h
  obtain ⟨bi, hbi⟩ : ∃ q, q = isF len [123] s := ⟨_, rfl⟩
  have HIs0 : Hid (∀ w, Par B b len M k 0 s w → Calls Tryz.prog 49 #[.pointer (some ⟨b, 0, none⟩), .string ⟨#[123]⟩] w (fun e w' => e = .returned (.bool bi) ∧ Below w.heap.size w w')) := Lib.hid fun w h => by rw [hbi]; exact is_any [123] h
  obtain ⟨s', hs'⟩ : ∃ q, q = if bi && decide (16 ≤ k) then failF len 131 s else s := ⟨_, rfl⟩
  have HS0 : Hid (expF len [123] s' = s0) := Lib.hid (by rw [hs0, hs', hbi]; rfl)
  have HS' := Lib.hid hs'
  clear hb hs0 hR hblk hk hbi hs' h
  cases bi
  · obtain rfl : s' = s := HS'.out
    go_enter Tryz.func52, Tryz.ntmps52
    go_upto_region 3 with (go_at_call 49; have HY := HIs0.out _ HP.out; (with_reducible refine HY.mono ?_); clear HY; rintro e w2 ⟨rfl, hq⟩; have P2 := Lib.hid (HP.out.below hq); have D2 := Lib.hid (Pd.of_below hq b); clear hq)
    have HX3 : Hid (∀ w, Par B b len M k 0 s' w → Calls Tryz.prog 51 #[.pointer (some ⟨b, 0, none⟩), .string ⟨#[123]⟩] w (RetP B b len M k 0 (.tuple #[]) s0 w)) := Lib.hid fun w h => by have := expect_any [123] h; rw [HS0.out] at this; exact this
    go_upto_region 4 with (go_at_call 51; have HY := HX3.out _ P2.out; (with_reducible refine HY.mono ?_); clear HY; rintro e w3 ⟨rfl, hp, hd⟩; have P3 := Lib.hid hp; have D3 := Lib.hid (D2.out.trans hd); clear hp hd)
    obtain ⟨A3, cap3, hB3, -⟩ := P3.out.mem
    have c4 := hB3.cell 4
    have f4 := hB3.frozen 4
    have fl := hB3.lt
    simp at c4
    have P4 : Hid (Par B b len M (k + 1) 0 s0 (w3.setCell ⟨b, 4, none⟩ (.int .i64 ((k : Int) + 1)))) := Lib.hid (by have q := P3.out.blocks (k' := k + 1); exact q)
    have D4 : Hid (Pd b w (w3.setCell ⟨b, 4, none⟩ (.int .i64 ((k : Int) + 1)))) := Lib.hid (D3.out.setCell (p := ⟨b, 4, none⟩) rfl _)
    have HL0 : Hid (s0.ts.length ≤ 4096) := Lib.hid (by obtain ⟨_, _, _, _, q, _⟩ := P3.out.mem; exact q)
    clear hB3
    go_upto_region 5 with fail
    obtain ⟨W4, hW4⟩ : ∃ q, q = w3.setCell ⟨b, 4, none⟩ (.int .i64 ((k : Int) + 1)) := ⟨_, rfl⟩
    rw [← hW4] at P4 D4 ⊢
    clear hW4 c4 f4 fl
    have HST : Hid (BkI B b len M k w blk R (msr s0) (.slice none 0 0) W4) := Lib.hid ⟨s0, [], 0, s0.ts.length + 2, Nat.le_refl _, by unfold msr; split <;> omega, by have := HL0.out; unfold msr; simp only [List.length_nil]; split <;> omega, HNo.out, P4.out, D4.out, OwnL.nil _ _, HR.out.symm⟩
    clear P2 D2 P3 D3 P4 D4 HX3
    go_wp2_with fail
    go_loopg [3] (msr s0) (fun gk v wr => BkI B b len M k w blk R gk v wr)
    case atStart => exact HST.out
    case round =>
      obtain ⟨s1, l, n, g, hgk, hg1, hln, hk15, hp, hd, ho, hrw⟩ := hrel
      have HGk := Lib.hid hgk
      have HG1 := Lib.hid hg1
      have HLn := Lib.hid hln
      have HK15 := Lib.hid hk15
      have P5 := Lib.hid hp
      have D5 := Lib.hid hd
      have O5 := Lib.hid ho
      have HRw := Lib.hid hrw
      clear hgk hg1 hln hk15 hp hd ho hrw HST
      obtain ⟨A5, cap5, hB5, -⟩ := P5.out.mem
      have c3 := hB5.cell 3
      simp at c3
      clear hB5
      have HIs : Hid (∀ w, Par B b len M (k + 1) 0 s1 w → Calls Tryz.prog 49 #[.pointer (some ⟨b, 0, none⟩), .string ⟨#[125]⟩] w (fun e w' => e = .returned (.bool (isF len [125] s1)) ∧ Below w.heap.size w w')) := Lib.hid fun w h => is_any [125] h
      by_cases hno : s1.no = 0
      · have g0 : ((s1.no : Int) == 0) = true := by rw [hno]; rfl
        have HNo1 := Lib.hid hno
        obtain ⟨bj, hbj⟩ : ∃ q, q = isF len [125] s1 := ⟨_, rfl⟩
        rw [← hbj] at HIs
        have HBj := Lib.hid hbj.symm
        clear hbj hno
        cases bj
        · obtain ⟨g, rfl⟩ : ∃ q, g = q + 1 := ⟨g - 1, by have := HG1.out; omega⟩
          obtain ⟨r, hr⟩ : ∃ q, q = stmtS len blk s1 := ⟨_, rfl⟩
          have HSt : Hid (∀ w, Par B b len M (k + 1) 0 s1 w → Calls Tryz.prog 91 #[.pointer (some ⟨b, 0, none⟩)] w (RetS B b len M (k + 1) r w)) := Lib.hid fun w h => by
            rw [hr]
            have := HK15.out HNo1.out
            exact stmt_any HBlk.out HBl.out ⟨by omega, fun _ => by omega⟩ h
          have HMs : Hid (msr r.1 + 1 ≤ msr s1) := Lib.hid (by rw [hr]; exact msr_step HBl.out HNo1.out)
          have HRw2 : Hid (rowsS len blk g r.1 (l ++ [r.2]) = R) := Lib.hid (by rw [← HRw.out, hr]; exact (rows_more g l ⟨HNo1.out, HBj.out⟩).symm)
          have HK15' : Hid (r.1.no = 0 → k ≤ 15) := Lib.hid fun _ => HK15.out HNo1.out
          clear hr
          obtain ⟨s2, x⟩ := r
          obtain ⟨i0, hi0, hz0, hz1, hz2⟩ := info_parts ps_tinfo
          have HI0 := Lib.hid (And.intro hi0 (And.intro hz0 (And.intro hz1 hz2)))
          clear hi0 hz0 hz1 hz2
          go_upto_region 7 with (go_at_call 49; have HY := HIs.out _ P5.out; (with_reducible refine HY.mono ?_); clear HY; rintro e w6 ⟨rfl, hq⟩; have P6 := Lib.hid (P5.out.below hq); have D6 := Lib.hid (D5.out.then_ hq); have O6 := Lib.hid (O5.out.below hq); clear hq)
          clear c3
          go_wp2_with (first
            | (go_at_call 91; have HY := HSt.out _ P6.out; (with_reducible refine HY.mono ?_); clear HY; rintro e w7 ⟨nf, Af, mf, cf, A2f, m2f, c2f, A3f, m3f, c3f, rfl, hp, hd, hi, h1, h2, h3⟩; have B8 : Hid (Below w7.heap.size w7 (w7.alloc (.cells #[.string x.op, .string x.nm, .slice Af mf cf, .slice A2f m2f c2f, .slice A3f m3f c3f, .int .i64 x.a] 116))) := Lib.hid ((Below.refl _ _).alloc (Nat.le_refl _) _); have P8 := Lib.hid (hp.below B8.out); have D8 := Lib.hid ((D6.out.trans hd).then_ B8.out); have O8 := Lib.hid (((O6.out.pd hd HG.out).below B8.out).upS (Nat.le_add_right n nf)); have N8 := Lib.hid (Blk.new w7 116 #[.string x.op, .string x.nm, .slice Af mf cf, .slice A2f m2f c2f, .slice A3f m3f c3f, .int .i64 x.a]); have HLo : Hid (∀ q, w6.heap.size ≤ q ∧ q < w7.heap.size → w.heap.size ≤ q ∧ q < (w7.alloc (.cells #[.string x.op, .string x.nm, .slice Af mf cf, .slice A2f m2f c2f, .slice A3f m3f c3f, .int .i64 x.a] 116)).heap.size ∧ u3.ownBlock ≠ some q) := Lib.hid (fun q hq => ⟨Nat.le_trans D6.out.size hq.1, Nat.lt_of_lt_of_le hq.2 B8.out.size, fun e => absurd (O6.out.lt q e).2 (Nat.not_lt.2 hq.1)⟩); have HGd : Hid (([.string x.op, .string x.nm, .slice Af mf cf, .slice A2f m2f c2f, .slice A3f m3f c3f, .int .i64 x.a] : List Value).length = 6 ∧ (kSt (n + nf)).good (fun q => w.heap.size ≤ q ∧ q < (w7.alloc (.cells #[.string x.op, .string x.nm, .slice Af mf cf, .slice A2f m2f c2f, .slice A3f m3f c3f, .int .i64 x.a] 116)).heap.size ∧ u3.ownBlock ≠ some q) (w7.alloc (.cells #[.string x.op, .string x.nm, .slice Af mf cf, .slice A2f m2f c2f, .slice A3f m3f c3f, .int .i64 x.a] 116)) x [.string x.op, .string x.nm, .slice Af mf cf, .slice A2f m2f c2f, .slice A3f m3f c3f, .int .i64 x.a]) := Lib.hid ⟨rfl, _, _, _, rfl, hi, ((h1.below B8.out (fun q hq => hq.2)).wide HLo.out).le (Nat.le_add_left nf n), ((h2.below B8.out (fun q hq => hq.2)).wide HLo.out).le (Nat.le_add_left nf n), ((h3.below B8.out (fun q hq => hq.2)).wide HLo.out).le (Nat.le_add_left nf n)⟩; obtain ⟨css, hcs1, hcs2, hcs3⟩ := O8.out; have C1 := Lib.hid hcs1; have C2 := Lib.hid hcs2; have C3 := Lib.hid hcs3; clear hcs1 hcs2 hcs3 hp hd hi h1 h2 h3)
            | (at_builtin; refine wpList_append_at rfl _ _ 26 rfl w.heap.size 116 i0 (.agg #[.string ⟨#[]⟩, .string ⟨#[]⟩, .slice none 0 0, .slice none 0 0, .slice none 0 0, .int .i64 0]) 6 112 Tryz.underlying26 HI0.out.1 HI0.out.2.1 HI0.out.2.2.1 HI0.out.2.2.2 rfl (by decide) u3 l.length css.flatten rfl C2.out ⟨w7.heap.size, 0, none⟩ 1 1 [.string x.op, .string x.nm, .slice Af mf cf, .slice A2f m2f c2f, .slice A3f m3f c3f, .int .i64 x.a] rfl rfl (ps_news N8.out) (ps_one _ _ _ _ _ _ _ _ _ _ _ _) (by have := HLn.out; unfold maxLen; omega) (by have := HLn.out; omega) D8.out.size ?_; intro v9 w9 ho hg hv; have O9 : Hid (OwnL (kSt (n + nf)) 116 6 w.heap.size w9 v9 (l ++ [x])) := Lib.hid (OwnL.more C1.out C3.out ho hg hv HGd.out.1 HGd.out.2); have P9 := Lib.hid (P8.out.grown hg (fun g e => Nat.lt_of_lt_of_le HG.out (O8.out.lt g e).1)); have D9 := Lib.hid (D8.out.grown hg (fun g e => (O8.out.lt g e).1)); clear ho hg hv))
          go_roundg (msr s2)
          case rel => exact ⟨s2, l ++ [x], n + nf, g, Nat.le_refl _, by have := HMs.out; have := HG1.out; omega, by have h1 := HMs.out; have h2 := HLn.out; simp only [List.length_append, List.length_cons, List.length_nil] at h1 ⊢; omega, HK15'.out, P9.out, D9.out, O9.out, HRw2.out⟩
          case measure => have h1 := HMs.out; have h2 := HGk.out; omega
        · skip
          have HRr : Hid ((s1, l) = R) := Lib.hid (by rw [← HRw.out]; exact (rows_stop _ _ (fun h => by have := h.2; rw [HBj.out] at this; cases this)).symm)
          go_upto_region 8 with (go_at_call 49; have HY := HIs.out _ P5.out; (with_reducible refine HY.mono ?_); clear HY; rintro e w6 ⟨rfl, hq⟩; have P6 := Lib.hid (P5.out.below hq); have D6 := Lib.hid (D5.out.then_ hq); have O6 := Lib.hid (O5.out.below hq); clear hq)
          obtain ⟨A6, cap6, hB6, -⟩ := P6.out.mem
          have c4 := hB6.cell 4
          have f4 := hB6.frozen 4
          have fl := hB6.lt
          simp at c4
          have P8 : Hid (Par B b len M k 0 s1 (w6.setCell ⟨b, 4, none⟩ (.int .i64 (k : Int)))) := Lib.hid P6.out.blocks
          have D8 : Hid (Pd b w (w6.setCell ⟨b, 4, none⟩ (.int .i64 (k : Int)))) := Lib.hid (D6.out.setCell (p := ⟨b, 4, none⟩) rfl _)
          clear hB6
          go_upto_region 9 with fail
          obtain ⟨W8, hW8⟩ : ∃ q, q = w6.setCell ⟨b, 4, none⟩ (.int .i64 (k : Int)) := ⟨_, rfl⟩
          have HK8 : Hid (∀ q, q ≠ b → W8.heap[q]? = w6.heap[q]?) := Lib.hid fun q hq => by rw [hW8]; exact Below.heap_setCell _ _ _ _ hq
          have HZ8 : Hid (W8.heap.size = w6.heap.size) := Lib.hid (by rw [hW8]; simp [World.setCell])
          rw [← hW8] at P8 D8 ⊢
          clear hW8 c4 f4 fl
          have HX9 : Hid (∀ w, Par B b len M k 0 s1 w → Calls Tryz.prog 51 #[.pointer (some ⟨b, 0, none⟩), .string ⟨#[125]⟩] w (RetP B b len M k 0 (.tuple #[]) (expF len [125] s1) w)) := Lib.hid fun w h => expect_any [125] h
          go_wp2_with (go_at_call 51; have HY := HX9.out _ P8.out; (with_reducible refine HY.mono ?_); clear HY; rintro e w9 ⟨rfl, hp, hd⟩; have P9 := Lib.hid hp; have H9 := Lib.hid hd; have D9 := Lib.hid (D8.out.trans hd); clear hp hd)
          obtain ⟨A9, c9, rfl⟩ : ∃ A9 c9, u3 = .slice A9 l.length c9 := by
            obtain ⟨A9, c9, e, -⟩ := O6.out.row
            exact ⟨_, _, e⟩
          have HZ := own_st O6.out (by have := HLn.out; omega)
          go_ret
          refine ⟨n + 1, A9, _, c9, rfl, ?_, D9.out, ?_⟩
          · rw [HRes.out, ← HRr.out]; exact P9.out
          · rw [HRes.out, ← HRr.out]
            exact (HZ.kept fun q hq => (H9.out.block q (by rw [HZ8.out]; exact hq.2) (by have := hq.1; have := HG.out; omega)).trans (HK8.out q (by have := hq.1; have := HG.out; omega))).wide fun q hq => ⟨hq.1, Nat.lt_of_lt_of_le hq.2 (by rw [← HZ8.out]; exact H9.out.size)⟩
      · have g0 : ((s1.no : Int) == 0) = false := by simp; exact hno
        have HNo1 := Lib.hid hno
        clear hno
        have P6 := P5
        have D6 := D5
        have O6 := O5
        obtain ⟨w6, hw6⟩ : ∃ q, q = wr := ⟨_, rfl⟩
        rw [← hw6] at P6 D6 O6
        have HRr : Hid ((s1, l) = R) := Lib.hid (by rw [← HRw.out]; exact (rows_stop _ _ (fun h => HNo1.out h.1)).symm)
        go_upto_region 8 with fail
        rw [← hw6]
        clear hw6
        obtain ⟨A6, cap6, hB6, -⟩ := P6.out.mem
        have c4 := hB6.cell 4
        have f4 := hB6.frozen 4
        have fl := hB6.lt
        simp at c4
        have P8 : Hid (Par B b len M k 0 s1 (w6.setCell ⟨b, 4, none⟩ (.int .i64 (k : Int)))) := Lib.hid P6.out.blocks
        have D8 : Hid (Pd b w (w6.setCell ⟨b, 4, none⟩ (.int .i64 (k : Int)))) := Lib.hid (D6.out.setCell (p := ⟨b, 4, none⟩) rfl _)
        clear hB6
        go_upto_region 9 with fail
        obtain ⟨W8, hW8⟩ : ∃ q, q = w6.setCell ⟨b, 4, none⟩ (.int .i64 (k : Int)) := ⟨_, rfl⟩
        have HK8 : Hid (∀ q, q ≠ b → W8.heap[q]? = w6.heap[q]?) := Lib.hid fun q hq => by rw [hW8]; exact Below.heap_setCell _ _ _ _ hq
        have HZ8 : Hid (W8.heap.size = w6.heap.size) := Lib.hid (by rw [hW8]; simp [World.setCell])
        rw [← hW8] at P8 D8 ⊢
        clear hW8 c4 f4 fl
        have HX9 : Hid (∀ w, Par B b len M k 0 s1 w → Calls Tryz.prog 51 #[.pointer (some ⟨b, 0, none⟩), .string ⟨#[125]⟩] w (RetP B b len M k 0 (.tuple #[]) (expF len [125] s1) w)) := Lib.hid fun w h => expect_any [125] h
        go_wp2_with (go_at_call 51; have HY := HX9.out _ P8.out; (with_reducible refine HY.mono ?_); clear HY; rintro e w9 ⟨rfl, hp, hd⟩; have P9 := Lib.hid hp; have H9 := Lib.hid hd; have D9 := Lib.hid (D8.out.trans hd); clear hp hd)
        obtain ⟨A9, c9, rfl⟩ : ∃ A9 c9, u3 = .slice A9 l.length c9 := by
          obtain ⟨A9, c9, e, -⟩ := O6.out.row
          exact ⟨_, _, e⟩
        have HZ := own_st O6.out (by have := HLn.out; omega)
        go_ret
        refine ⟨n + 1, A9, _, c9, rfl, ?_, D9.out, ?_⟩
        · rw [HRes.out, ← HRr.out]; exact P9.out
        · rw [HRes.out, ← HRr.out]
          exact (HZ.kept fun q hq => (H9.out.block q (by rw [HZ8.out]; exact hq.2) (by have := hq.1; have := HG.out; omega)).trans (HK8.out q (by have := hq.1; have := HG.out; omega))).wide fun q hq => ⟨hq.1, Nat.lt_of_lt_of_le hq.2 (by rw [← HZ8.out]; exact H9.out.size)⟩
  · by_cases h16 : 16 ≤ k
    · have g16 : decide ((16 : Int) ≤ (k : Int)) = true := decide_eq_true (by omega)
      have e' : s' = failF len 131 s := by rw [HS'.out, decide_eq_true h16]; rfl
      have HFl : Hid (∀ w, Par B b len M k 0 s w → Calls Tryz.prog 48 #[.pointer (some ⟨b, 0, none⟩), .int .i64 131] w (RetP B b len M k 0 (.tuple #[]) s' w)) := Lib.hid fun w h => by rw [e']; exact fail_d h
      clear h16 e'
      go_enter Tryz.func52, Tryz.ntmps52
      go_upto_region 2 with (go_at_call 49; have HY := HIs0.out _ HP.out; (with_reducible refine HY.mono ?_); clear HY; rintro e w1 ⟨rfl, hq⟩; have P1 := Lib.hid (HP.out.below hq); have D1 := Lib.hid (Pd.of_below hq b); obtain ⟨A1, cap1, hB1, -⟩ := P1.out.mem; have b4 := hB1.cell 4; simp at b4; clear hB1; clear hq)
      clear b4
      go_upto_region 3 with (go_at_call 48; have HY := HFl.out _ P1.out; (with_reducible refine HY.mono ?_); clear HY; rintro e w2 ⟨rfl, hp, hd⟩; have P2 := Lib.hid hp; have D2 := Lib.hid (D1.out.trans hd); clear hp hd)
      have HX3 : Hid (∀ w, Par B b len M k 0 s' w → Calls Tryz.prog 51 #[.pointer (some ⟨b, 0, none⟩), .string ⟨#[123]⟩] w (RetP B b len M k 0 (.tuple #[]) s0 w)) := Lib.hid fun w h => by have := expect_any [123] h; rw [HS0.out] at this; exact this
      go_upto_region 4 with (go_at_call 51; have HY := HX3.out _ P2.out; (with_reducible refine HY.mono ?_); clear HY; rintro e w3 ⟨rfl, hp, hd⟩; have P3 := Lib.hid hp; have D3 := Lib.hid (D2.out.trans hd); clear hp hd)
      obtain ⟨A3, cap3, hB3, -⟩ := P3.out.mem
      have c4 := hB3.cell 4
      have f4 := hB3.frozen 4
      have fl := hB3.lt
      simp at c4
      have P4 : Hid (Par B b len M (k + 1) 0 s0 (w3.setCell ⟨b, 4, none⟩ (.int .i64 ((k : Int) + 1)))) := Lib.hid (by have q := P3.out.blocks (k' := k + 1); exact q)
      have D4 : Hid (Pd b w (w3.setCell ⟨b, 4, none⟩ (.int .i64 ((k : Int) + 1)))) := Lib.hid (D3.out.setCell (p := ⟨b, 4, none⟩) rfl _)
      have HL0 : Hid (s0.ts.length ≤ 4096) := Lib.hid (by obtain ⟨_, _, _, _, q, _⟩ := P3.out.mem; exact q)
      clear hB3
      go_upto_region 5 with fail
      obtain ⟨W4, hW4⟩ : ∃ q, q = w3.setCell ⟨b, 4, none⟩ (.int .i64 ((k : Int) + 1)) := ⟨_, rfl⟩
      rw [← hW4] at P4 D4 ⊢
      clear hW4 c4 f4 fl
      have HST : Hid (BkI B b len M k w blk R (msr s0) (.slice none 0 0) W4) := Lib.hid ⟨s0, [], 0, s0.ts.length + 2, Nat.le_refl _, by unfold msr; split <;> omega, by have := HL0.out; unfold msr; simp only [List.length_nil]; split <;> omega, HNo.out, P4.out, D4.out, OwnL.nil _ _, HR.out.symm⟩
      clear P2 D2 P3 D3 P4 D4 HX3
      go_wp2_with fail
      go_loopg [3] (msr s0) (fun gk v wr => BkI B b len M k w blk R gk v wr)
      case atStart => exact HST.out
      case round =>
        obtain ⟨s1, l, n, g, hgk, hg1, hln, hk15, hp, hd, ho, hrw⟩ := hrel
        have HGk := Lib.hid hgk
        have HG1 := Lib.hid hg1
        have HLn := Lib.hid hln
        have HK15 := Lib.hid hk15
        have P5 := Lib.hid hp
        have D5 := Lib.hid hd
        have O5 := Lib.hid ho
        have HRw := Lib.hid hrw
        clear hgk hg1 hln hk15 hp hd ho hrw HST
        obtain ⟨A5, cap5, hB5, -⟩ := P5.out.mem
        have c3 := hB5.cell 3
        simp at c3
        clear hB5
        have HIs : Hid (∀ w, Par B b len M (k + 1) 0 s1 w → Calls Tryz.prog 49 #[.pointer (some ⟨b, 0, none⟩), .string ⟨#[125]⟩] w (fun e w' => e = .returned (.bool (isF len [125] s1)) ∧ Below w.heap.size w w')) := Lib.hid fun w h => is_any [125] h
        by_cases hno : s1.no = 0
        · have g0 : ((s1.no : Int) == 0) = true := by rw [hno]; rfl
          have HNo1 := Lib.hid hno
          obtain ⟨bj, hbj⟩ : ∃ q, q = isF len [125] s1 := ⟨_, rfl⟩
          rw [← hbj] at HIs
          have HBj := Lib.hid hbj.symm
          clear hbj hno
          cases bj
          · obtain ⟨g, rfl⟩ : ∃ q, g = q + 1 := ⟨g - 1, by have := HG1.out; omega⟩
            obtain ⟨r, hr⟩ : ∃ q, q = stmtS len blk s1 := ⟨_, rfl⟩
            have HSt : Hid (∀ w, Par B b len M (k + 1) 0 s1 w → Calls Tryz.prog 91 #[.pointer (some ⟨b, 0, none⟩)] w (RetS B b len M (k + 1) r w)) := Lib.hid fun w h => by
              rw [hr]
              have := HK15.out HNo1.out
              exact stmt_any HBlk.out HBl.out ⟨by omega, fun _ => by omega⟩ h
            have HMs : Hid (msr r.1 + 1 ≤ msr s1) := Lib.hid (by rw [hr]; exact msr_step HBl.out HNo1.out)
            have HRw2 : Hid (rowsS len blk g r.1 (l ++ [r.2]) = R) := Lib.hid (by rw [← HRw.out, hr]; exact (rows_more g l ⟨HNo1.out, HBj.out⟩).symm)
            have HK15' : Hid (r.1.no = 0 → k ≤ 15) := Lib.hid fun _ => HK15.out HNo1.out
            clear hr
            obtain ⟨s2, x⟩ := r
            obtain ⟨i0, hi0, hz0, hz1, hz2⟩ := info_parts ps_tinfo
            have HI0 := Lib.hid (And.intro hi0 (And.intro hz0 (And.intro hz1 hz2)))
            clear hi0 hz0 hz1 hz2
            go_upto_region 7 with (go_at_call 49; have HY := HIs.out _ P5.out; (with_reducible refine HY.mono ?_); clear HY; rintro e w6 ⟨rfl, hq⟩; have P6 := Lib.hid (P5.out.below hq); have D6 := Lib.hid (D5.out.then_ hq); have O6 := Lib.hid (O5.out.below hq); clear hq)
            clear c3
            go_wp2_with (first
              | (go_at_call 91; have HY := HSt.out _ P6.out; (with_reducible refine HY.mono ?_); clear HY; rintro e w7 ⟨nf, Af, mf, cf, A2f, m2f, c2f, A3f, m3f, c3f, rfl, hp, hd, hi, h1, h2, h3⟩; have B8 : Hid (Below w7.heap.size w7 (w7.alloc (.cells #[.string x.op, .string x.nm, .slice Af mf cf, .slice A2f m2f c2f, .slice A3f m3f c3f, .int .i64 x.a] 116))) := Lib.hid ((Below.refl _ _).alloc (Nat.le_refl _) _); have P8 := Lib.hid (hp.below B8.out); have D8 := Lib.hid ((D6.out.trans hd).then_ B8.out); have O8 := Lib.hid (((O6.out.pd hd HG.out).below B8.out).upS (Nat.le_add_right n nf)); have N8 := Lib.hid (Blk.new w7 116 #[.string x.op, .string x.nm, .slice Af mf cf, .slice A2f m2f c2f, .slice A3f m3f c3f, .int .i64 x.a]); have HLo : Hid (∀ q, w6.heap.size ≤ q ∧ q < w7.heap.size → w.heap.size ≤ q ∧ q < (w7.alloc (.cells #[.string x.op, .string x.nm, .slice Af mf cf, .slice A2f m2f c2f, .slice A3f m3f c3f, .int .i64 x.a] 116)).heap.size ∧ u3.ownBlock ≠ some q) := Lib.hid (fun q hq => ⟨Nat.le_trans D6.out.size hq.1, Nat.lt_of_lt_of_le hq.2 B8.out.size, fun e => absurd (O6.out.lt q e).2 (Nat.not_lt.2 hq.1)⟩); have HGd : Hid (([.string x.op, .string x.nm, .slice Af mf cf, .slice A2f m2f c2f, .slice A3f m3f c3f, .int .i64 x.a] : List Value).length = 6 ∧ (kSt (n + nf)).good (fun q => w.heap.size ≤ q ∧ q < (w7.alloc (.cells #[.string x.op, .string x.nm, .slice Af mf cf, .slice A2f m2f c2f, .slice A3f m3f c3f, .int .i64 x.a] 116)).heap.size ∧ u3.ownBlock ≠ some q) (w7.alloc (.cells #[.string x.op, .string x.nm, .slice Af mf cf, .slice A2f m2f c2f, .slice A3f m3f c3f, .int .i64 x.a] 116)) x [.string x.op, .string x.nm, .slice Af mf cf, .slice A2f m2f c2f, .slice A3f m3f c3f, .int .i64 x.a]) := Lib.hid ⟨rfl, _, _, _, rfl, hi, ((h1.below B8.out (fun q hq => hq.2)).wide HLo.out).le (Nat.le_add_left nf n), ((h2.below B8.out (fun q hq => hq.2)).wide HLo.out).le (Nat.le_add_left nf n), ((h3.below B8.out (fun q hq => hq.2)).wide HLo.out).le (Nat.le_add_left nf n)⟩; obtain ⟨css, hcs1, hcs2, hcs3⟩ := O8.out; have C1 := Lib.hid hcs1; have C2 := Lib.hid hcs2; have C3 := Lib.hid hcs3; clear hcs1 hcs2 hcs3 hp hd hi h1 h2 h3)
              | (at_builtin; refine wpList_append_at rfl _ _ 26 rfl w.heap.size 116 i0 (.agg #[.string ⟨#[]⟩, .string ⟨#[]⟩, .slice none 0 0, .slice none 0 0, .slice none 0 0, .int .i64 0]) 6 112 Tryz.underlying26 HI0.out.1 HI0.out.2.1 HI0.out.2.2.1 HI0.out.2.2.2 rfl (by decide) u3 l.length css.flatten rfl C2.out ⟨w7.heap.size, 0, none⟩ 1 1 [.string x.op, .string x.nm, .slice Af mf cf, .slice A2f m2f c2f, .slice A3f m3f c3f, .int .i64 x.a] rfl rfl (ps_news N8.out) (ps_one _ _ _ _ _ _ _ _ _ _ _ _) (by have := HLn.out; unfold maxLen; omega) (by have := HLn.out; omega) D8.out.size ?_; intro v9 w9 ho hg hv; have O9 : Hid (OwnL (kSt (n + nf)) 116 6 w.heap.size w9 v9 (l ++ [x])) := Lib.hid (OwnL.more C1.out C3.out ho hg hv HGd.out.1 HGd.out.2); have P9 := Lib.hid (P8.out.grown hg (fun g e => Nat.lt_of_lt_of_le HG.out (O8.out.lt g e).1)); have D9 := Lib.hid (D8.out.grown hg (fun g e => (O8.out.lt g e).1)); clear ho hg hv))
            go_roundg (msr s2)
            case rel => exact ⟨s2, l ++ [x], n + nf, g, Nat.le_refl _, by have := HMs.out; have := HG1.out; omega, by have h1 := HMs.out; have h2 := HLn.out; simp only [List.length_append, List.length_cons, List.length_nil] at h1 ⊢; omega, HK15'.out, P9.out, D9.out, O9.out, HRw2.out⟩
            case measure => have h1 := HMs.out; have h2 := HGk.out; omega
          · skip
            have HRr : Hid ((s1, l) = R) := Lib.hid (by rw [← HRw.out]; exact (rows_stop _ _ (fun h => by have := h.2; rw [HBj.out] at this; cases this)).symm)
            go_upto_region 8 with (go_at_call 49; have HY := HIs.out _ P5.out; (with_reducible refine HY.mono ?_); clear HY; rintro e w6 ⟨rfl, hq⟩; have P6 := Lib.hid (P5.out.below hq); have D6 := Lib.hid (D5.out.then_ hq); have O6 := Lib.hid (O5.out.below hq); clear hq)
            obtain ⟨A6, cap6, hB6, -⟩ := P6.out.mem
            have c4 := hB6.cell 4
            have f4 := hB6.frozen 4
            have fl := hB6.lt
            simp at c4
            have P8 : Hid (Par B b len M k 0 s1 (w6.setCell ⟨b, 4, none⟩ (.int .i64 (k : Int)))) := Lib.hid P6.out.blocks
            have D8 : Hid (Pd b w (w6.setCell ⟨b, 4, none⟩ (.int .i64 (k : Int)))) := Lib.hid (D6.out.setCell (p := ⟨b, 4, none⟩) rfl _)
            clear hB6
            go_upto_region 9 with fail
            obtain ⟨W8, hW8⟩ : ∃ q, q = w6.setCell ⟨b, 4, none⟩ (.int .i64 (k : Int)) := ⟨_, rfl⟩
            have HK8 : Hid (∀ q, q ≠ b → W8.heap[q]? = w6.heap[q]?) := Lib.hid fun q hq => by rw [hW8]; exact Below.heap_setCell _ _ _ _ hq
            have HZ8 : Hid (W8.heap.size = w6.heap.size) := Lib.hid (by rw [hW8]; simp [World.setCell])
            rw [← hW8] at P8 D8 ⊢
            clear hW8 c4 f4 fl
            have HX9 : Hid (∀ w, Par B b len M k 0 s1 w → Calls Tryz.prog 51 #[.pointer (some ⟨b, 0, none⟩), .string ⟨#[125]⟩] w (RetP B b len M k 0 (.tuple #[]) (expF len [125] s1) w)) := Lib.hid fun w h => expect_any [125] h
            go_wp2_with (go_at_call 51; have HY := HX9.out _ P8.out; (with_reducible refine HY.mono ?_); clear HY; rintro e w9 ⟨rfl, hp, hd⟩; have P9 := Lib.hid hp; have H9 := Lib.hid hd; have D9 := Lib.hid (D8.out.trans hd); clear hp hd)
            obtain ⟨A9, c9, rfl⟩ : ∃ A9 c9, u3 = .slice A9 l.length c9 := by
              obtain ⟨A9, c9, e, -⟩ := O6.out.row
              exact ⟨_, _, e⟩
            have HZ := own_st O6.out (by have := HLn.out; omega)
            go_ret
            refine ⟨n + 1, A9, _, c9, rfl, ?_, D9.out, ?_⟩
            · rw [HRes.out, ← HRr.out]; exact P9.out
            · rw [HRes.out, ← HRr.out]
              exact (HZ.kept fun q hq => (H9.out.block q (by rw [HZ8.out]; exact hq.2) (by have := hq.1; have := HG.out; omega)).trans (HK8.out q (by have := hq.1; have := HG.out; omega))).wide fun q hq => ⟨hq.1, Nat.lt_of_lt_of_le hq.2 (by rw [← HZ8.out]; exact H9.out.size)⟩
        · have g0 : ((s1.no : Int) == 0) = false := by simp; exact hno
          have HNo1 := Lib.hid hno
          clear hno
          have P6 := P5
          have D6 := D5
          have O6 := O5
          obtain ⟨w6, hw6⟩ : ∃ q, q = wr := ⟨_, rfl⟩
          rw [← hw6] at P6 D6 O6
          have HRr : Hid ((s1, l) = R) := Lib.hid (by rw [← HRw.out]; exact (rows_stop _ _ (fun h => HNo1.out h.1)).symm)
          go_upto_region 8 with fail
          rw [← hw6]
          clear hw6
          obtain ⟨A6, cap6, hB6, -⟩ := P6.out.mem
          have c4 := hB6.cell 4
          have f4 := hB6.frozen 4
          have fl := hB6.lt
          simp at c4
          have P8 : Hid (Par B b len M k 0 s1 (w6.setCell ⟨b, 4, none⟩ (.int .i64 (k : Int)))) := Lib.hid P6.out.blocks
          have D8 : Hid (Pd b w (w6.setCell ⟨b, 4, none⟩ (.int .i64 (k : Int)))) := Lib.hid (D6.out.setCell (p := ⟨b, 4, none⟩) rfl _)
          clear hB6
          go_upto_region 9 with fail
          obtain ⟨W8, hW8⟩ : ∃ q, q = w6.setCell ⟨b, 4, none⟩ (.int .i64 (k : Int)) := ⟨_, rfl⟩
          have HK8 : Hid (∀ q, q ≠ b → W8.heap[q]? = w6.heap[q]?) := Lib.hid fun q hq => by rw [hW8]; exact Below.heap_setCell _ _ _ _ hq
          have HZ8 : Hid (W8.heap.size = w6.heap.size) := Lib.hid (by rw [hW8]; simp [World.setCell])
          rw [← hW8] at P8 D8 ⊢
          clear hW8 c4 f4 fl
          have HX9 : Hid (∀ w, Par B b len M k 0 s1 w → Calls Tryz.prog 51 #[.pointer (some ⟨b, 0, none⟩), .string ⟨#[125]⟩] w (RetP B b len M k 0 (.tuple #[]) (expF len [125] s1) w)) := Lib.hid fun w h => expect_any [125] h
          go_wp2_with (go_at_call 51; have HY := HX9.out _ P8.out; (with_reducible refine HY.mono ?_); clear HY; rintro e w9 ⟨rfl, hp, hd⟩; have P9 := Lib.hid hp; have H9 := Lib.hid hd; have D9 := Lib.hid (D8.out.trans hd); clear hp hd)
          obtain ⟨A9, c9, rfl⟩ : ∃ A9 c9, u3 = .slice A9 l.length c9 := by
            obtain ⟨A9, c9, e, -⟩ := O6.out.row
            exact ⟨_, _, e⟩
          have HZ := own_st O6.out (by have := HLn.out; omega)
          go_ret
          refine ⟨n + 1, A9, _, c9, rfl, ?_, D9.out, ?_⟩
          · rw [HRes.out, ← HRr.out]; exact P9.out
          · rw [HRes.out, ← HRr.out]
            exact (HZ.kept fun q hq => (H9.out.block q (by rw [HZ8.out]; exact hq.2) (by have := hq.1; have := HG.out; omega)).trans (HK8.out q (by have := hq.1; have := HG.out; omega))).wide fun q hq => ⟨hq.1, Nat.lt_of_lt_of_le hq.2 (by rw [← HZ8.out]; exact H9.out.size)⟩
    · have g16 : decide ((16 : Int) ≤ (k : Int)) = false := decide_eq_false (by omega)
      obtain rfl : s' = s := by rw [HS'.out, decide_eq_false h16]; rfl
      clear h16
      go_enter Tryz.func52, Tryz.ntmps52
      go_upto_region 3 with (go_at_call 49; have HY := HIs0.out _ HP.out; (with_reducible refine HY.mono ?_); clear HY; rintro e w2 ⟨rfl, hq⟩; have P2 := Lib.hid (HP.out.below hq); have D2 := Lib.hid (Pd.of_below hq b); obtain ⟨A1, cap1, hB1, -⟩ := P2.out.mem; have b4 := hB1.cell 4; simp at b4; clear hB1; clear hq)
      clear b4
      have HX3 : Hid (∀ w, Par B b len M k 0 s' w → Calls Tryz.prog 51 #[.pointer (some ⟨b, 0, none⟩), .string ⟨#[123]⟩] w (RetP B b len M k 0 (.tuple #[]) s0 w)) := Lib.hid fun w h => by have := expect_any [123] h; rw [HS0.out] at this; exact this
      go_upto_region 4 with (go_at_call 51; have HY := HX3.out _ P2.out; (with_reducible refine HY.mono ?_); clear HY; rintro e w3 ⟨rfl, hp, hd⟩; have P3 := Lib.hid hp; have D3 := Lib.hid (D2.out.trans hd); clear hp hd)
      obtain ⟨A3, cap3, hB3, -⟩ := P3.out.mem
      have c4 := hB3.cell 4
      have f4 := hB3.frozen 4
      have fl := hB3.lt
      simp at c4
      have P4 : Hid (Par B b len M (k + 1) 0 s0 (w3.setCell ⟨b, 4, none⟩ (.int .i64 ((k : Int) + 1)))) := Lib.hid (by have q := P3.out.blocks (k' := k + 1); exact q)
      have D4 : Hid (Pd b w (w3.setCell ⟨b, 4, none⟩ (.int .i64 ((k : Int) + 1)))) := Lib.hid (D3.out.setCell (p := ⟨b, 4, none⟩) rfl _)
      have HL0 : Hid (s0.ts.length ≤ 4096) := Lib.hid (by obtain ⟨_, _, _, _, q, _⟩ := P3.out.mem; exact q)
      clear hB3
      go_upto_region 5 with fail
      obtain ⟨W4, hW4⟩ : ∃ q, q = w3.setCell ⟨b, 4, none⟩ (.int .i64 ((k : Int) + 1)) := ⟨_, rfl⟩
      rw [← hW4] at P4 D4 ⊢
      clear hW4 c4 f4 fl
      have HST : Hid (BkI B b len M k w blk R (msr s0) (.slice none 0 0) W4) := Lib.hid ⟨s0, [], 0, s0.ts.length + 2, Nat.le_refl _, by unfold msr; split <;> omega, by have := HL0.out; unfold msr; simp only [List.length_nil]; split <;> omega, HNo.out, P4.out, D4.out, OwnL.nil _ _, HR.out.symm⟩
      clear P2 D2 P3 D3 P4 D4 HX3
      go_wp2_with fail
      go_loopg [3] (msr s0) (fun gk v wr => BkI B b len M k w blk R gk v wr)
      case atStart => exact HST.out
      case round =>
        obtain ⟨s1, l, n, g, hgk, hg1, hln, hk15, hp, hd, ho, hrw⟩ := hrel
        have HGk := Lib.hid hgk
        have HG1 := Lib.hid hg1
        have HLn := Lib.hid hln
        have HK15 := Lib.hid hk15
        have P5 := Lib.hid hp
        have D5 := Lib.hid hd
        have O5 := Lib.hid ho
        have HRw := Lib.hid hrw
        clear hgk hg1 hln hk15 hp hd ho hrw HST
        obtain ⟨A5, cap5, hB5, -⟩ := P5.out.mem
        have c3 := hB5.cell 3
        simp at c3
        clear hB5
        have HIs : Hid (∀ w, Par B b len M (k + 1) 0 s1 w → Calls Tryz.prog 49 #[.pointer (some ⟨b, 0, none⟩), .string ⟨#[125]⟩] w (fun e w' => e = .returned (.bool (isF len [125] s1)) ∧ Below w.heap.size w w')) := Lib.hid fun w h => is_any [125] h
        by_cases hno : s1.no = 0
        · have g0 : ((s1.no : Int) == 0) = true := by rw [hno]; rfl
          have HNo1 := Lib.hid hno
          obtain ⟨bj, hbj⟩ : ∃ q, q = isF len [125] s1 := ⟨_, rfl⟩
          rw [← hbj] at HIs
          have HBj := Lib.hid hbj.symm
          clear hbj hno
          cases bj
          · obtain ⟨g, rfl⟩ : ∃ q, g = q + 1 := ⟨g - 1, by have := HG1.out; omega⟩
            obtain ⟨r, hr⟩ : ∃ q, q = stmtS len blk s1 := ⟨_, rfl⟩
            have HSt : Hid (∀ w, Par B b len M (k + 1) 0 s1 w → Calls Tryz.prog 91 #[.pointer (some ⟨b, 0, none⟩)] w (RetS B b len M (k + 1) r w)) := Lib.hid fun w h => by
              rw [hr]
              have := HK15.out HNo1.out
              exact stmt_any HBlk.out HBl.out ⟨by omega, fun _ => by omega⟩ h
            have HMs : Hid (msr r.1 + 1 ≤ msr s1) := Lib.hid (by rw [hr]; exact msr_step HBl.out HNo1.out)
            have HRw2 : Hid (rowsS len blk g r.1 (l ++ [r.2]) = R) := Lib.hid (by rw [← HRw.out, hr]; exact (rows_more g l ⟨HNo1.out, HBj.out⟩).symm)
            have HK15' : Hid (r.1.no = 0 → k ≤ 15) := Lib.hid fun _ => HK15.out HNo1.out
            clear hr
            obtain ⟨s2, x⟩ := r
            obtain ⟨i0, hi0, hz0, hz1, hz2⟩ := info_parts ps_tinfo
            have HI0 := Lib.hid (And.intro hi0 (And.intro hz0 (And.intro hz1 hz2)))
            clear hi0 hz0 hz1 hz2
            go_upto_region 7 with (go_at_call 49; have HY := HIs.out _ P5.out; (with_reducible refine HY.mono ?_); clear HY; rintro e w6 ⟨rfl, hq⟩; have P6 := Lib.hid (P5.out.below hq); have D6 := Lib.hid (D5.out.then_ hq); have O6 := Lib.hid (O5.out.below hq); clear hq)
            clear c3
            go_wp2_with (first
              | (go_at_call 91; have HY := HSt.out _ P6.out; (with_reducible refine HY.mono ?_); clear HY; rintro e w7 ⟨nf, Af, mf, cf, A2f, m2f, c2f, A3f, m3f, c3f, rfl, hp, hd, hi, h1, h2, h3⟩; have B8 : Hid (Below w7.heap.size w7 (w7.alloc (.cells #[.string x.op, .string x.nm, .slice Af mf cf, .slice A2f m2f c2f, .slice A3f m3f c3f, .int .i64 x.a] 116))) := Lib.hid ((Below.refl _ _).alloc (Nat.le_refl _) _); have P8 := Lib.hid (hp.below B8.out); have D8 := Lib.hid ((D6.out.trans hd).then_ B8.out); have O8 := Lib.hid (((O6.out.pd hd HG.out).below B8.out).upS (Nat.le_add_right n nf)); have N8 := Lib.hid (Blk.new w7 116 #[.string x.op, .string x.nm, .slice Af mf cf, .slice A2f m2f c2f, .slice A3f m3f c3f, .int .i64 x.a]); have HLo : Hid (∀ q, w6.heap.size ≤ q ∧ q < w7.heap.size → w.heap.size ≤ q ∧ q < (w7.alloc (.cells #[.string x.op, .string x.nm, .slice Af mf cf, .slice A2f m2f c2f, .slice A3f m3f c3f, .int .i64 x.a] 116)).heap.size ∧ u3.ownBlock ≠ some q) := Lib.hid (fun q hq => ⟨Nat.le_trans D6.out.size hq.1, Nat.lt_of_lt_of_le hq.2 B8.out.size, fun e => absurd (O6.out.lt q e).2 (Nat.not_lt.2 hq.1)⟩); have HGd : Hid (([.string x.op, .string x.nm, .slice Af mf cf, .slice A2f m2f c2f, .slice A3f m3f c3f, .int .i64 x.a] : List Value).length = 6 ∧ (kSt (n + nf)).good (fun q => w.heap.size ≤ q ∧ q < (w7.alloc (.cells #[.string x.op, .string x.nm, .slice Af mf cf, .slice A2f m2f c2f, .slice A3f m3f c3f, .int .i64 x.a] 116)).heap.size ∧ u3.ownBlock ≠ some q) (w7.alloc (.cells #[.string x.op, .string x.nm, .slice Af mf cf, .slice A2f m2f c2f, .slice A3f m3f c3f, .int .i64 x.a] 116)) x [.string x.op, .string x.nm, .slice Af mf cf, .slice A2f m2f c2f, .slice A3f m3f c3f, .int .i64 x.a]) := Lib.hid ⟨rfl, _, _, _, rfl, hi, ((h1.below B8.out (fun q hq => hq.2)).wide HLo.out).le (Nat.le_add_left nf n), ((h2.below B8.out (fun q hq => hq.2)).wide HLo.out).le (Nat.le_add_left nf n), ((h3.below B8.out (fun q hq => hq.2)).wide HLo.out).le (Nat.le_add_left nf n)⟩; obtain ⟨css, hcs1, hcs2, hcs3⟩ := O8.out; have C1 := Lib.hid hcs1; have C2 := Lib.hid hcs2; have C3 := Lib.hid hcs3; clear hcs1 hcs2 hcs3 hp hd hi h1 h2 h3)
              | (at_builtin; refine wpList_append_at rfl _ _ 26 rfl w.heap.size 116 i0 (.agg #[.string ⟨#[]⟩, .string ⟨#[]⟩, .slice none 0 0, .slice none 0 0, .slice none 0 0, .int .i64 0]) 6 112 Tryz.underlying26 HI0.out.1 HI0.out.2.1 HI0.out.2.2.1 HI0.out.2.2.2 rfl (by decide) u3 l.length css.flatten rfl C2.out ⟨w7.heap.size, 0, none⟩ 1 1 [.string x.op, .string x.nm, .slice Af mf cf, .slice A2f m2f c2f, .slice A3f m3f c3f, .int .i64 x.a] rfl rfl (ps_news N8.out) (ps_one _ _ _ _ _ _ _ _ _ _ _ _) (by have := HLn.out; unfold maxLen; omega) (by have := HLn.out; omega) D8.out.size ?_; intro v9 w9 ho hg hv; have O9 : Hid (OwnL (kSt (n + nf)) 116 6 w.heap.size w9 v9 (l ++ [x])) := Lib.hid (OwnL.more C1.out C3.out ho hg hv HGd.out.1 HGd.out.2); have P9 := Lib.hid (P8.out.grown hg (fun g e => Nat.lt_of_lt_of_le HG.out (O8.out.lt g e).1)); have D9 := Lib.hid (D8.out.grown hg (fun g e => (O8.out.lt g e).1)); clear ho hg hv))
            go_roundg (msr s2)
            case rel => exact ⟨s2, l ++ [x], n + nf, g, Nat.le_refl _, by have := HMs.out; have := HG1.out; omega, by have h1 := HMs.out; have h2 := HLn.out; simp only [List.length_append, List.length_cons, List.length_nil] at h1 ⊢; omega, HK15'.out, P9.out, D9.out, O9.out, HRw2.out⟩
            case measure => have h1 := HMs.out; have h2 := HGk.out; omega
          · skip
            have HRr : Hid ((s1, l) = R) := Lib.hid (by rw [← HRw.out]; exact (rows_stop _ _ (fun h => by have := h.2; rw [HBj.out] at this; cases this)).symm)
            go_upto_region 8 with (go_at_call 49; have HY := HIs.out _ P5.out; (with_reducible refine HY.mono ?_); clear HY; rintro e w6 ⟨rfl, hq⟩; have P6 := Lib.hid (P5.out.below hq); have D6 := Lib.hid (D5.out.then_ hq); have O6 := Lib.hid (O5.out.below hq); clear hq)
            obtain ⟨A6, cap6, hB6, -⟩ := P6.out.mem
            have c4 := hB6.cell 4
            have f4 := hB6.frozen 4
            have fl := hB6.lt
            simp at c4
            have P8 : Hid (Par B b len M k 0 s1 (w6.setCell ⟨b, 4, none⟩ (.int .i64 (k : Int)))) := Lib.hid P6.out.blocks
            have D8 : Hid (Pd b w (w6.setCell ⟨b, 4, none⟩ (.int .i64 (k : Int)))) := Lib.hid (D6.out.setCell (p := ⟨b, 4, none⟩) rfl _)
            clear hB6
            go_upto_region 9 with fail
            obtain ⟨W8, hW8⟩ : ∃ q, q = w6.setCell ⟨b, 4, none⟩ (.int .i64 (k : Int)) := ⟨_, rfl⟩
            have HK8 : Hid (∀ q, q ≠ b → W8.heap[q]? = w6.heap[q]?) := Lib.hid fun q hq => by rw [hW8]; exact Below.heap_setCell _ _ _ _ hq
            have HZ8 : Hid (W8.heap.size = w6.heap.size) := Lib.hid (by rw [hW8]; simp [World.setCell])
            rw [← hW8] at P8 D8 ⊢
            clear hW8 c4 f4 fl
            have HX9 : Hid (∀ w, Par B b len M k 0 s1 w → Calls Tryz.prog 51 #[.pointer (some ⟨b, 0, none⟩), .string ⟨#[125]⟩] w (RetP B b len M k 0 (.tuple #[]) (expF len [125] s1) w)) := Lib.hid fun w h => expect_any [125] h
            go_wp2_with (go_at_call 51; have HY := HX9.out _ P8.out; (with_reducible refine HY.mono ?_); clear HY; rintro e w9 ⟨rfl, hp, hd⟩; have P9 := Lib.hid hp; have H9 := Lib.hid hd; have D9 := Lib.hid (D8.out.trans hd); clear hp hd)
            obtain ⟨A9, c9, rfl⟩ : ∃ A9 c9, u3 = .slice A9 l.length c9 := by
              obtain ⟨A9, c9, e, -⟩ := O6.out.row
              exact ⟨_, _, e⟩
            have HZ := own_st O6.out (by have := HLn.out; omega)
            go_ret
            refine ⟨n + 1, A9, _, c9, rfl, ?_, D9.out, ?_⟩
            · rw [HRes.out, ← HRr.out]; exact P9.out
            · rw [HRes.out, ← HRr.out]
              exact (HZ.kept fun q hq => (H9.out.block q (by rw [HZ8.out]; exact hq.2) (by have := hq.1; have := HG.out; omega)).trans (HK8.out q (by have := hq.1; have := HG.out; omega))).wide fun q hq => ⟨hq.1, Nat.lt_of_lt_of_le hq.2 (by rw [← HZ8.out]; exact H9.out.size)⟩
        · have g0 : ((s1.no : Int) == 0) = false := by simp; exact hno
          have HNo1 := Lib.hid hno
          clear hno
          have P6 := P5
          have D6 := D5
          have O6 := O5
          obtain ⟨w6, hw6⟩ : ∃ q, q = wr := ⟨_, rfl⟩
          rw [← hw6] at P6 D6 O6
          have HRr : Hid ((s1, l) = R) := Lib.hid (by rw [← HRw.out]; exact (rows_stop _ _ (fun h => HNo1.out h.1)).symm)
          go_upto_region 8 with fail
          rw [← hw6]
          clear hw6
          obtain ⟨A6, cap6, hB6, -⟩ := P6.out.mem
          have c4 := hB6.cell 4
          have f4 := hB6.frozen 4
          have fl := hB6.lt
          simp at c4
          have P8 : Hid (Par B b len M k 0 s1 (w6.setCell ⟨b, 4, none⟩ (.int .i64 (k : Int)))) := Lib.hid P6.out.blocks
          have D8 : Hid (Pd b w (w6.setCell ⟨b, 4, none⟩ (.int .i64 (k : Int)))) := Lib.hid (D6.out.setCell (p := ⟨b, 4, none⟩) rfl _)
          clear hB6
          go_upto_region 9 with fail
          obtain ⟨W8, hW8⟩ : ∃ q, q = w6.setCell ⟨b, 4, none⟩ (.int .i64 (k : Int)) := ⟨_, rfl⟩
          have HK8 : Hid (∀ q, q ≠ b → W8.heap[q]? = w6.heap[q]?) := Lib.hid fun q hq => by rw [hW8]; exact Below.heap_setCell _ _ _ _ hq
          have HZ8 : Hid (W8.heap.size = w6.heap.size) := Lib.hid (by rw [hW8]; simp [World.setCell])
          rw [← hW8] at P8 D8 ⊢
          clear hW8 c4 f4 fl
          have HX9 : Hid (∀ w, Par B b len M k 0 s1 w → Calls Tryz.prog 51 #[.pointer (some ⟨b, 0, none⟩), .string ⟨#[125]⟩] w (RetP B b len M k 0 (.tuple #[]) (expF len [125] s1) w)) := Lib.hid fun w h => expect_any [125] h
          go_wp2_with (go_at_call 51; have HY := HX9.out _ P8.out; (with_reducible refine HY.mono ?_); clear HY; rintro e w9 ⟨rfl, hp, hd⟩; have P9 := Lib.hid hp; have H9 := Lib.hid hd; have D9 := Lib.hid (D8.out.trans hd); clear hp hd)
          obtain ⟨A9, c9, rfl⟩ : ∃ A9 c9, u3 = .slice A9 l.length c9 := by
            obtain ⟨A9, c9, e, -⟩ := O6.out.row
            exact ⟨_, _, e⟩
          have HZ := own_st O6.out (by have := HLn.out; omega)
          go_ret
          refine ⟨n + 1, A9, _, c9, rfl, ?_, D9.out, ?_⟩
          · rw [HRes.out, ← HRr.out]; exact P9.out
          · rw [HRes.out, ← HRr.out]
            exact (HZ.kept fun q hq => (H9.out.block q (by rw [HZ8.out]; exact hq.2) (by have := hq.1; have := HG.out; omega)).trans (HK8.out q (by have := hq.1; have := HG.out; omega))).wide fun q hq => ⟨hq.1, Nat.lt_of_lt_of_le hq.2 (by rw [← HZ8.out]; exact H9.out.size)⟩
/-- A block, in as many as there may be. -/
theorem block_any (f : Nat) : ∀ k, f + k = 18 → BlkC B b len M k (blkS len f k) := by
  induction f with
  | zero => intro k hk s w _ h; exact absurd h.1 (by omega)
  | succ f ih => intro k hk; exact pblock_step (by omega) (ih (k + 1) (by omega))
end
end Go.Proofs.YteaongdlbleehaaGreatDoor
