/- The parse layer: the rules, a map of methods. -/
import Derived.Test.YteaongdlbleehaaGreatDoorGPsMath
import Derived.Carry
import Derived.Maps.Keyed
import Derived.Lib.Hide
import Derived.Deep.Draws
import Derived.Test.YteaongdlbleehaaGreatDoorGTrNum
namespace Go.Proofs.YteaongdlbleehaaGreatDoor
open Go.RowKit
/-- A map of text keys, an entry more: under a key that is none of those that there are. -/
theorem insert_new {P : Program} {t k e : TypeId} (ht : P.underlying t = some (.map k e)) (hk : P.underlying k = some .string) (w : World) (es : Array MapEntry) (c : Nat) (key : ByteArray) (v : Value) (hn : Instr.findNow .string (.string key) es.toList 0 = some none) :
    (Instr.mapUpdate t (.map (some w.heap.size)) (.string key) v).run P (w.alloc (.map es c)) = .ok () (w.alloc (.map (es.push ⟨.string key, v, c⟩) (c + 1))) := by
  have hb := (MapKept.heap_alloc w (.map es c)).1
  simp [Instr.mapUpdate, run_underlying ht, MapKept.run_getObj_map hb, MapKept.run_checkKey (k := .string key) hk trivial, MapKept.run_findKey hk hn, MapKept.run_setObj_map _ hb, Result.andThen]
  have e : ∀ (o o' : Obj), (w.heap.push o).setIfInBounds w.heap.size o' = w.heap.push o' := fun o o' => by
    apply Array.ext_getElem?
    intro i
    rw [Array.getElem?_setIfInBounds, Array.getElem?_push, Array.getElem?_push]
    by_cases h : w.heap.size = i
    · subst h; simp
    · have h2 : i ≠ w.heap.size := fun e => h e.symm
      simp [h, h2]
  rw [World.alloc, World.alloc]
  show ({ heap := (w.heap.push _).setIfInBounds w.heap.size _, tape := w.tape, drawn := w.drawn, os := w.os, output := w.output } : World) = { heap := w.heap.push _, tape := w.tape, drawn := w.drawn, os := w.os, output := w.output }
  rw [e]
/-- A look-up of a text key. -/
theorem look_text {P : Program} {t k e : TypeId} (ht : P.underlying t = some (.map k e)) (hk : P.underlying k = some .string) {w : World} {g : Nat} {es : Array MapEntry} {c : Nat} (hb : w.heap[g]? = some (.map es c)) (key : ByteArray) {i : Nat} {v : Value} (hn : Instr.findNow .string (.string key) es.toList 0 = some (some (i, v))) :
    (Instr.lookup t (.map (some g)) (.string key) true).run P w = .ok (.tuple #[v, .bool true]) w := by
  simp [Instr.lookup, run_underlying ht, MapKept.run_getObj_map hb, MapKept.run_checkKey (k := .string key) hk trivial, MapKept.run_findKey hk hn, Result.andThen]
theorem look_none {P : Program} {t k e : TypeId} (ht : P.underlying t = some (.map k e)) (hk : P.underlying k = some .string) {w : World} {g : Nat} {es : Array MapEntry} {c : Nat} (hb : w.heap[g]? = some (.map es c)) (key : ByteArray) {z : Value} (hz : (zeroValue e).run P w = .ok z w) (hn : Instr.findNow .string (.string key) es.toList 0 = some none) :
    (Instr.lookup t (.map (some g)) (.string key) true).run P w = .ok (.tuple #[z, .bool false]) w := by
  simp [Instr.lookup, run_underlying ht, MapKept.run_getObj_map hb, MapKept.run_checkKey (k := .string key) hk trivial, MapKept.run_findKey hk hn, hz, Result.andThen]
/-- The rules. -/
abbrev esR : Array MapEntry := #[⟨.string ⟨#[97, 32, 110, 97, 109, 101]⟩, .func (.func 80) #[] #[], 0⟩, ⟨.string ⟨#[105, 102]⟩, .func (.func 81) #[] #[], 1⟩, ⟨.string ⟨#[119, 104, 105, 108, 101]⟩, .func (.func 82) #[] #[], 2⟩, ⟨.string ⟨#[97, 115, 115, 101, 114, 116]⟩, .func (.func 83) #[] #[], 3⟩, ⟨.string ⟨#[97, 115, 115, 117, 109, 101]⟩, .func (.func 83) #[] #[], 4⟩, ⟨.string ⟨#[99, 97, 108, 108]⟩, .func (.func 84) #[] #[], 5⟩, ⟨.string ⟨#[115, 107, 105, 112]⟩, .func (.func 85) #[] #[], 6⟩]
/-- Which rule a text has. -/
def ruleI (k : Bs) : Option (Nat × Value) :=
  if k == tAName then some (0, .func (.func 80) #[] #[])
  else if k == sIf then some (1, .func (.func 81) #[] #[])
  else if k == sWhile then some (2, .func (.func 82) #[] #[])
  else if k == sAssert then some (3, .func (.func 83) #[] #[])
  else if k == sAssume then some (4, .func (.func 83) #[] #[])
  else if k == sCall then some (5, .func (.func 84) #[] #[])
  else if k == sSkip then some (6, .func (.func 85) #[] #[])
  else none
theorem bA_beq (k l : Bs) : (bA k == bA l) = (k == l) := by
  show (k.toArray == l.toArray) = (k == l)
  simp
theorem find_rule (k : Bs) : Instr.findNow .string (.string (bA k)) esR.toList 0 = some (ruleI k) := by
  have h0 : (bA k == (⟨#[97, 32, 110, 97, 109, 101]⟩ : ByteArray)) = (k == tAName) := bA_beq k tAName
  have h1 : (bA k == (⟨#[105, 102]⟩ : ByteArray)) = (k == sIf) := bA_beq k sIf
  have h2 : (bA k == (⟨#[119, 104, 105, 108, 101]⟩ : ByteArray)) = (k == sWhile) := bA_beq k sWhile
  have h3 : (bA k == (⟨#[97, 115, 115, 101, 114, 116]⟩ : ByteArray)) = (k == sAssert) := bA_beq k sAssert
  have h4 : (bA k == (⟨#[97, 115, 115, 117, 109, 101]⟩ : ByteArray)) = (k == sAssume) := bA_beq k sAssume
  have h5 : (bA k == (⟨#[99, 97, 108, 108]⟩ : ByteArray)) = (k == sCall) := bA_beq k sCall
  have h6 : (bA k == (⟨#[115, 107, 105, 112]⟩ : ByteArray)) = (k == sSkip) := bA_beq k sSkip
  unfold ruleI
  simp only [Instr.findNow, Instr.sameNow, h0, h1, h2, h3, h4, h5, h6]
  repeat (split <;> simp_all)
/-- The rules lie below block B. -/
def MapR (w : World) (B : Nat) (M : Value) : Prop := ∃ g, M = .map (some g) ∧ g < B ∧ w.heap[g]? = some (.map esR 7)
theorem MapR.keep {w w' : World} {B : Nat} {M : Value} (h : MapR w B M) (hk : ∀ g, g < B → w'.heap[g]? = w.heap[g]?) : MapR w' B M := by
  obtain ⟨g, e, hg, hh⟩ := h
  exact ⟨g, e, hg, (hk g hg).trans hh⟩
theorem MapR.set_ {w : World} {B : Nat} {M : Value} {p : Addr} (h : MapR w B M) (hp : B ≤ p.block) (u : Value) : MapR (w.setCell p u) B M := h.keep fun g hg => Below.heap_setCell _ _ _ _ (by omega)
/-- A text's rule. -/
theorem rule_some {w : World} {g : Nat} (h : w.heap[g]? = some (.map esR 7)) {k : Bs} {i : Nat} {v : Value} (hr : ruleI k = some (i, v)) : (Instr.lookup 102 (.map (some g)) (.string (bA k)) true).run Tryz.prog w = .ok (.tuple #[v, .bool true]) w :=
  look_text Tryz.underlying102 Tryz.underlying9 h _ (i := i) (by rw [find_rule, hr])
theorem rule_none {w : World} {g : Nat} (h : w.heap[g]? = some (.map esR 7)) {k : Bs} (hr : ruleI k = none) : (Instr.lookup 102 (.map (some g)) (.string (bA k)) true).run Tryz.prog w = .ok (.tuple #[.nilFunc, .bool false]) w :=
  look_none Tryz.underlying102 Tryz.underlying9 h _ (by kernel_rfl) (by rw [find_rule, hr])
set_option maxHeartbeats 6400000 in
set_option maxRecDepth 100000 in
theorem rules_any (w : World) : Calls Tryz.prog 47 #[] w (fun e w' => e = .returned (.map (some w.heap.size)) ∧ w' = w.alloc (.map esR 7)) := by
  have hmm := @run_makeMap Tryz.prog
  have h0 := insert_new Tryz.underlying102 Tryz.underlying9 w #[] 0 ⟨#[97, 32, 110, 97, 109, 101]⟩ (.func (.func 80) #[] #[]) (by rfl)
  have h1 := insert_new Tryz.underlying102 Tryz.underlying9 w #[⟨.string ⟨#[97, 32, 110, 97, 109, 101]⟩, .func (.func 80) #[] #[], 0⟩] 1 ⟨#[105, 102]⟩ (.func (.func 81) #[] #[]) (by rfl)
  have h2 := insert_new Tryz.underlying102 Tryz.underlying9 w #[⟨.string ⟨#[97, 32, 110, 97, 109, 101]⟩, .func (.func 80) #[] #[], 0⟩, ⟨.string ⟨#[105, 102]⟩, .func (.func 81) #[] #[], 1⟩] 2 ⟨#[119, 104, 105, 108, 101]⟩ (.func (.func 82) #[] #[]) (by rfl)
  have h3 := insert_new Tryz.underlying102 Tryz.underlying9 w #[⟨.string ⟨#[97, 32, 110, 97, 109, 101]⟩, .func (.func 80) #[] #[], 0⟩, ⟨.string ⟨#[105, 102]⟩, .func (.func 81) #[] #[], 1⟩, ⟨.string ⟨#[119, 104, 105, 108, 101]⟩, .func (.func 82) #[] #[], 2⟩] 3 ⟨#[97, 115, 115, 101, 114, 116]⟩ (.func (.func 83) #[] #[]) (by rfl)
  have h4 := insert_new Tryz.underlying102 Tryz.underlying9 w #[⟨.string ⟨#[97, 32, 110, 97, 109, 101]⟩, .func (.func 80) #[] #[], 0⟩, ⟨.string ⟨#[105, 102]⟩, .func (.func 81) #[] #[], 1⟩, ⟨.string ⟨#[119, 104, 105, 108, 101]⟩, .func (.func 82) #[] #[], 2⟩, ⟨.string ⟨#[97, 115, 115, 101, 114, 116]⟩, .func (.func 83) #[] #[], 3⟩] 4 ⟨#[97, 115, 115, 117, 109, 101]⟩ (.func (.func 83) #[] #[]) (by rfl)
  have h5 := insert_new Tryz.underlying102 Tryz.underlying9 w #[⟨.string ⟨#[97, 32, 110, 97, 109, 101]⟩, .func (.func 80) #[] #[], 0⟩, ⟨.string ⟨#[105, 102]⟩, .func (.func 81) #[] #[], 1⟩, ⟨.string ⟨#[119, 104, 105, 108, 101]⟩, .func (.func 82) #[] #[], 2⟩, ⟨.string ⟨#[97, 115, 115, 101, 114, 116]⟩, .func (.func 83) #[] #[], 3⟩, ⟨.string ⟨#[97, 115, 115, 117, 109, 101]⟩, .func (.func 83) #[] #[], 4⟩] 5 ⟨#[99, 97, 108, 108]⟩ (.func (.func 84) #[] #[]) (by rfl)
  have h6 := insert_new Tryz.underlying102 Tryz.underlying9 w #[⟨.string ⟨#[97, 32, 110, 97, 109, 101]⟩, .func (.func 80) #[] #[], 0⟩, ⟨.string ⟨#[105, 102]⟩, .func (.func 81) #[] #[], 1⟩, ⟨.string ⟨#[119, 104, 105, 108, 101]⟩, .func (.func 82) #[] #[], 2⟩, ⟨.string ⟨#[97, 115, 115, 101, 114, 116]⟩, .func (.func 83) #[] #[], 3⟩, ⟨.string ⟨#[97, 115, 115, 117, 109, 101]⟩, .func (.func 83) #[] #[], 4⟩, ⟨.string ⟨#[99, 97, 108, 108]⟩, .func (.func 84) #[] #[], 5⟩] 6 ⟨#[115, 107, 105, 112]⟩ (.func (.func 85) #[] #[]) (by rfl)
  simp only [List.push_toArray, List.cons_append, List.nil_append, Nat.zero_add, Nat.reduceAdd] at h0 h1 h2 h3 h4 h5 h6
  go_enter Tryz.func47, Tryz.ntmps47
  go_wp2
  go_ret
  exact ⟨rfl, rfl⟩
end Go.Proofs.YteaongdlbleehaaGreatDoor
