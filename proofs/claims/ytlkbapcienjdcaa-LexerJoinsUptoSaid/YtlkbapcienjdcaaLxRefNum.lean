/- The lexer layer: the document's Number. -/
import Derived.Test.YtlkbapcienjdcaaLxLex
namespace Go.Proofs.Ytlkbapcienjdcaa
open Go.RowKit
section
variable {c : UInt8} {r l : List UInt8}
set_option maxRecDepth 100000 in
set_option maxHeartbeats 3200000 in
theorem number_any (s : ByteArray) (hs : s.size ≤ 5000) (hd : ∀ b ∈ s.data.toList, digitB b = true) (W : World) : Calls Try.prog 20 #[.string s] W (fun e w' => (∃ x : Int, e = .returned (.tuple #[.int .i64 x, .bool (numL s.data.toList).isSome]) ∧ ∀ v, numL s.data.toList = some v → x = (v : Int)) ∧ W = w') := by
  obtain ⟨l, hl⟩ : ∃ l, s.data.toList = l := ⟨_, rfl⟩
  have hlen : l.length = s.size := by rw [← hl, list_size]
  rw [hl]
  have HQ : Hid (numL l = if 40 < s.size then none else valF 0 l) := Lib.hid (by unfold numL; rw [hlen])
  have HD : Hid (∀ pos (h : pos < s.size), l[pos]? = some s[pos] ∧ digitB s[pos] = true) := Lib.hid fun pos h => by
    have e := get_list s pos h
    subst hl
    refine ⟨by rw [← e]; exact List.getElem?_eq_getElem _, hd _ (by rw [← e]; exact List.getElem_mem _)⟩
  have HLen := Lib.hid hlen
  have HN : Hid (valF 0 l = none → numL l = none) := Lib.hid (fun h => by rw [HQ.out, h]; split <;> rfl)
  clear hl hlen hd
  go_enter Try.func20, Try.ntmps20
  go_wp2
  go_loop [4, 5] (fun v4 v5 => ∃ (pos n : Nat), v4 = .int .i64 (n : Int) ∧ v5 = .int .i64 (pos : Int) ∧ n ≤ 1152921504606846976 ∧ pos ≤ s.size ∧ Hid (valF n (l.drop pos) = valF 0 l)) (fun _ v5 => s.size - (RowKit.intOf v5).toNat)
  case atStart => exact ⟨0, 0, rfl, rfl, by omega, by omega, Lib.hid rfl⟩
  case round =>
    obtain ⟨pos, n, rfl, rfl, hn, hps, HV⟩ := hrel
    by_cases hp : pos < s.size
    · obtain ⟨hg, hdg⟩ := HD.out pos hp
      obtain ⟨k1, k2⟩ := digit_bd hdg
      have HC : Hid (l.drop pos = s[pos] :: l.drop (pos + 1)) := Lib.hid (by
        obtain ⟨h1, h2⟩ := List.getElem?_eq_some_iff.1 hg
        rw [drop_cons h1, h2])
      obtain ⟨k, hk⟩ : ∃ k, (s[pos]).toNat = k := ⟨_, rfl⟩
      have HNx : Hid (valF n (l.drop pos) = if 1152921504606846976 < n * 10 + (k - 48) then none else valF (n * 10 + (k - 48)) (l.drop (pos + 1))) := Lib.hid (by rw [HC.out, ← hk]; rfl)
      rw [hk] at k1 k2
      obtain ⟨d, hd⟩ : ∃ d, k = d + 48 := ⟨k - 48, by omega⟩
      have hd9 : d ≤ 9 := by omega
      subst hd
      simp only [Nat.add_sub_cancel] at HNx
      have e1 : ((s[pos]).toNat : Int) = (d : Int) + 48 := by omega
      clear HC hk hg hdg k1 k2
      by_cases hgt : 1152921504606846976 < n * 10 + d
      · have HR : Hid (numL l = none) := Lib.hid (HN.out (by rw [← HV.out, HNx.out, if_pos hgt]))
        clear HV HNx
        by_cases hb : 115292150460684697 < n
        · have g1 : (115292150460684697 : Int) < (n : Int) := by omega
          clear hgt e1
          go_wp2_with fail
          go_ret2
          exact ⟨⟨0, by rw [HR.out]; rfl, fun v h => by rw [HR.out] at h; cases h⟩, rfl⟩
        · have g1 : (n : Int) ≤ 115292150460684697 := by omega
          have g2 : (1152921504606846976 : Int) < (n : Int) * 10 - 48 + ((d : Int) + 48) := by omega
          clear hgt hb
          go_wp2_with fail
          go_ret2
          exact ⟨⟨0, by rw [HR.out]; rfl, fun v h => by rw [HR.out] at h; cases h⟩, rfl⟩
      · have HR : Hid (valF (n * 10 + d) (l.drop (pos + 1)) = valF 0 l) := Lib.hid (by rw [← HV.out, HNx.out, if_neg hgt])
        have g1 : (n : Int) ≤ 115292150460684697 := by omega
        have g2 : (n : Int) * 10 - 48 + ((d : Int) + 48) ≤ 1152921504606846976 := by omega
        clear HV HNx
        go_wp2_with fail
        exact ⟨⟨pos + 1, n * 10 + d, by go_num, by go_num, by omega, by omega, HR⟩, by simp [RowKit.intOf]; omega⟩
    · have HR : Hid (valF 0 l = some n) := Lib.hid (by
        rw [← HV.out, List.drop_eq_nil_of_le (by rw [HLen.out]; omega)]
        rfl)
      have hp2 : (s.size : Int) ≤ (pos : Int) := by omega
      clear HV hp
      by_cases h4 : 40 < s.size
      · have g1 : decide ((s.size : Int) ≤ 40) = false := decide_eq_false (by omega)
        have HX : Hid (numL l = none) := Lib.hid (by rw [HQ.out, if_pos h4])
        clear h4
        go_wp2_with fail
        go_ret2
        exact ⟨⟨n, by rw [HX.out]; rfl, fun v h => by rw [HX.out] at h; cases h⟩, rfl⟩
      · have g1 : decide ((s.size : Int) ≤ 40) = true := decide_eq_true (by omega)
        have HX : Hid (numL l = some n) := Lib.hid (by rw [HQ.out, if_neg h4, HR.out])
        clear h4
        go_wp2_with fail
        go_ret2
        exact ⟨⟨n, by rw [HX.out]; rfl, fun v h => by rw [HX.out] at h; cases h; rfl⟩, rfl⟩
end
end Go.Proofs.Ytlkbapcienjdcaa
