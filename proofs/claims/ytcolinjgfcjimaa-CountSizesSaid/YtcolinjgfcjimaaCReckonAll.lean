/- The contract of reckon itself. -/
import Derived.Test.YtcolinjgfcjimaaCReckon
namespace Go.Proofs.Ytcolinjgfcjimaa
open Go.RowKit
attribute [local go_sem ↓] Go.wp_at_zero Go.wp_at_succ

theorem run_store_func (P : Program) (w : World) (a : Addr) (m : Mode) (f : Fn) (rs cs : Array Value) : (store a (.func f rs cs) m).run P w = stored P w a (.func f rs cs) m := run_store P w a _ m rfl
attribute [local go_sem] run_store_func
theorem cost_few {L : List Nd} (hR : RightL L) : ∀ r, costP L r + 1 ≤ 2 ^ (12 - varP L r).toNat := by
  refine down hR (fun r hr => ?_) fun k x hx _ _ h2 h3 => ?_
  · rw [show costP L r = 0 from fold_out hr]
    exact Nat.one_le_two_pow
  · obtain ⟨x1, x2, x3⟩ := x
    obtain ⟨⟨v0, v1⟩, -, ⟨-, l2⟩, -, l3⟩ := hR.1 _ _ hx
    dsimp only at v0 v1 l2 l3 h2 h3
    rw [costP_node hR hx, varP_at hx]
    dsimp only
    obtain ⟨u, hu⟩ : ∃ u, (12 - x1).toNat = u + 1 := ⟨(12 - x1).toNat - 1, by omega⟩
    have p2 : 2 ^ (12 - varP L x2).toNat ≤ 2 ^ u := Nat.pow_le_pow_right (by omega) (by omega)
    have p3 : 2 ^ (12 - varP L x3).toNat ≤ 2 ^ u := Nat.pow_le_pow_right (by omega) (by omega)
    rw [hu, Nat.pow_succ]
    omega
theorem cost_lt {L : List Nd} (hR : RightL L) (r : Int) : costP L r < 4096 := by
  have h := cost_few hR r
  have h0 := varP_nonneg hR r
  have : 2 ^ (12 - varP L r).toNat ≤ 2 ^ 12 := Nat.pow_le_pow_right (by omega) (by omega)
  omega
section
variable {W : World} {own : Nat → Prop} {p lim : Nat} {L : List Nd}
set_option maxRecDepth 100000 in
set_option maxHeartbeats 1600000 in
theorem reckon_any (h : Arena W own p lim L) (f : Int) {ge kb : Nat} {le lb : Array Value} {eF : Int → Int} {bF : Int → Int → Int → Int}
    (ee : ∀ args w, (callFunc ge args).run Try.prog w = .ok (.enter ge args) w) (eb : ∀ args w, (callFunc kb args).run Try.prog w = .ok (.enter kb args) w)
    (he : ∀ (k : Int) W1, Below W.heap.size W W1 → Calls Try.prog ge (#[.int .i64 k] ++ le) W1 (RetX (eF k) W1))
    (hb : ∀ (v r s : Int) W1, 0 ≤ v → v < 12 → Below W.heap.size W W1 → Calls Try.prog kb (#[.int .i64 v, .int .i64 (fold L (fun t => eF (valueP t)) bF r), .int .i64 (fold L (fun t => eF (valueP t)) bF s)] ++ lb) W1 (RetX (bF v (fold L (fun t => eF (valueP t)) bF r) (fold L (fun t => eF (valueP t)) bF s)) W1))
    (num : ∀ r, I64 (fold L (fun t => eF (valueP t)) bF r)) :
    Calls Try.prog 32 #[.pointer (some ⟨p, 0, none⟩), .int .i64 f, .func (.func ge) #[] le, .func (.func kb) #[] lb] W (RetX (fold L (fun t => eF (valueP t)) bF f) W) := by
  have hmm := @run_makeMap Try.prog
  obtain ⟨A, hA⟩ : ∃ A : Array Value, #[.pointer (some ⟨W.heap.size, 0, none⟩), .pointer (some ⟨W.heap.size + 1, 0, none⟩), .pointer (some ⟨W.heap.size + 1 + 1 + 1 + 1, 0, none⟩), .pointer (some ⟨W.heap.size + 1 + 1, 0, none⟩), .pointer (some ⟨W.heap.size + 1 + 1 + 1 + 1 + 1, 0, none⟩)] = A := ⟨_, rfl⟩
  have s1 := size_up (rfl : W.heap.size = W.heap.size) (.cells #[.pointer (some ⟨p, 0, none⟩)] 24)
  have s2 := size_up s1 (.cells #[.func (.func ge) #[] le] 54)
  have s3 := size_up s2 (.cells #[.func (.func kb) #[] lb] 69)
  have s4 := size_up s3 (.map #[] 0)
  have s5 := size_up s4 (.cells #[.map (some (W.heap.size + 1 + 1 + 1))] 87)
  have s6 := size_up s5 (.cells #[.nilFunc] 54)
  have ba := (((((Blk.new_ (rfl : W.heap.size = W.heap.size) 24 #[.pointer (some ⟨p, 0, none⟩)]).up (.cells #[.func (.func ge) #[] le] 54)).up (.cells #[.func (.func kb) #[] lb] 69)).up (.map #[] 0)).up (.cells #[.map (some (W.heap.size + 1 + 1 + 1))] 87)).up (.cells #[.nilFunc] 54)
  have be := ((((Blk.new_ s1 54 #[.func (.func ge) #[] le]).up (.cells #[.func (.func kb) #[] lb] 69)).up (.map #[] 0)).up (.cells #[.map (some (W.heap.size + 1 + 1 + 1))] 87)).up (.cells #[.nilFunc] 54)
  have bb := (((Blk.new_ s2 69 #[.func (.func kb) #[] lb]).up (.map #[] 0)).up (.cells #[.map (some (W.heap.size + 1 + 1 + 1))] 87)).up (.cells #[.nilFunc] 54)
  have bk := (Blk.new_ s4 87 #[.map (some (W.heap.size + 1 + 1 + 1))]).up (.cells #[.nilFunc] 54)
  have bo := Blk.new_ s5 54 #[.nilFunc]
  have m0 := intM_new (((W.alloc (.cells #[.pointer (some ⟨p, 0, none⟩)] 24)).alloc (.cells #[.func (.func ge) #[] le] 54)).alloc (.cells #[.func (.func kb) #[] lb] 69))
  rw [s3] at m0
  have m1 := m0.below ((((Below.refl _ _).alloc (Nat.le_refl _) (.cells #[.map (some (W.heap.size + 1 + 1 + 1))] 87)).alloc (by rw [s4, s5]; omega) (.cells #[.nilFunc] 54))) m0.lt
  have hb6 := (((((((Below.refl W.heap.size W).alloc (Nat.le_refl _) (.cells #[.pointer (some ⟨p, 0, none⟩)] 24)).alloc (by rw [s1]; omega) (.cells #[.func (.func ge) #[] le] 54)).alloc (by rw [s2]; omega) (.cells #[.func (.func kb) #[] lb] 69)).alloc (by rw [s3]; omega) (.map #[] 0)).alloc (by rw [s4]; omega) (.cells #[.map (some (W.heap.size + 1 + 1 + 1))] 87)).alloc (by rw [s5]; omega) (.cells #[.nilFunc] 54))
  obtain ⟨W6, hW6⟩ : ∃ W6, ((((((W.alloc (.cells #[.pointer (some ⟨p, 0, none⟩)] 24)).alloc (.cells #[.func (.func ge) #[] le] 54)).alloc (.cells #[.func (.func kb) #[] lb] 69)).alloc (.map #[] 0)).alloc (.cells #[.map (some (W.heap.size + 1 + 1 + 1))] 87)).alloc (.cells #[.nilFunc] 54)) = W6 := ⟨_, rfl⟩
  have c0 : _ = some Value.nilFunc := bo.cell 0
  have f0 := bo.frozen 0
  rw [hW6] at ba be bb bk bo m1 hb6 c0 f0
  have hb7 : Below W.heap.size W (W6.setCell ⟨W.heap.size + 1 + 1 + 1 + 1 + 1, 0, none⟩ (.func (.func 55) #[] A)) := hb6.setCell (by show _ ≤ W.heap.size + 1 + 1 + 1 + 1 + 1; omega) _
  have bo7 := bo.set_ 0 (.func (.func 55) #[] A)
  have hk := (reckon_all (C := ⟨W, own, p, lim, L, W.heap.size, W.heap.size + 1, W.heap.size + 1 + 1 + 1 + 1, W.heap.size + 1 + 1, W.heap.size + 1 + 1 + 1 + 1 + 1, W.heap.size + 1 + 1 + 1, ge, kb, le, lb, eF, bF⟩) ⟨h.right, ee, eb, he, hb, num⟩ f) _ 0 (fun _ => none)
    ⟨h.below hb7, fun ho => (by have := h.old _ ho; dsimp only at this; omega), ba.far (by show W.heap.size ≠ W.heap.size + 1 + 1 + 1 + 1 + 1; omega) _, be.far (by show W.heap.size + 1 ≠ W.heap.size + 1 + 1 + 1 + 1 + 1; omega) _, bk.far (by show W.heap.size + 1 + 1 + 1 + 1 ≠ W.heap.size + 1 + 1 + 1 + 1 + 1; omega) _,
      bb.far (by show W.heap.size + 1 + 1 ≠ W.heap.size + 1 + 1 + 1 + 1 + 1; omega) _, by rw [hA]; simpa using bo7, m1.kept (grown_set W6 ⟨W.heap.size + 1 + 1 + 1 + 1 + 1, 0, none⟩ (.func (.func 55) #[] A)) (by simp), fun j x hj => (by cases hj), hb7, by show W.heap.size ≤ W.heap.size + 1 + 1 + 1; omega⟩
    (by have := cost_lt h.right f; show 0 + costP L f < maxLen; unfold maxLen; omega)
  dsimp only at hk
  have HK := Lib.hid (hk.mono fun e w' hr => (show RetX (fold L (fun t => eF (valueP t)) bF f) W e w' by
    obtain ⟨n1, g1, rfl, hr, -, ho⟩ := hr
    exact ⟨rfl, hb7.trans (ho.below hb7.size fun i hi => by subst hi; show W.heap.size ≤ W.heap.size + 1 + 1 + 1; omega)⟩))
  clear h ee eb he hb num s1 s2 s3 s4 s5 s6 ba be bb bk m0 m1 hb6 hk
  have co : (W6.setCell ⟨W.heap.size + 1 + 1 + 1 + 1 + 1, 0, none⟩ (.func (.func 55) #[] A)).cell? ⟨W.heap.size + 1 + 1 + 1 + 1 + 1, 0, none⟩ = some (.func (.func 55) #[] A) := by simpa using bo7.cell 0
  clear hb7 bo bo7
  rw [← hA] at HK co
  clear hA
  go_enter Try.func32, Try.ntmps32
  go_upto_region 3 with fail
  clear hW6
  go_wp2_with (go_at_call 55; ((with_reducible refine HK.out.mono ?_); rintro e w7 ⟨rfl, hb7⟩))
  go_ret
  exact ⟨rfl, hb7⟩
end
end Go.Proofs.Ytcolinjgfcjimaa
