/-
  What Of, the document's own Add, Of and Hex answer.
-/
import Derived.Test.YtllkibdpjpdbbaaDoorLSHex
import Derived.Test.YtllkibdpjpdbbaaDoorLBase
namespace Go.Proofs.YtllkibdpjpdbbaaDoor
open Go.RowKit

set_option maxHeartbeats 400000 in
theorem of_any (s : ByteArray) (hs : s.size ≤ maxLen) (w : World) : Calls Tryd.prog 39 #[.string s] w fun e w' => e = .returned (.int .u32 (addN 1 s.data.toList)) ∧ Below w.heap.size w w' := by
  have HA := Lib.hid (add_any 1 (by decide) s hs)
  clear hs
  go_enter Tryd.func39, Tryd.ntmps39
  go_wp2_with fail
  refine (HA.out _).mono ?_
  rintro e w1 ⟨rfl, hb1⟩
  go_wp2_with fail
  go_ret
  exact ⟨rfl, hb1⟩
set_option maxRecDepth 100000 in
set_option maxHeartbeats 1000000 in
theorem radd_any (n : Nat) (hn : n < 4294967296) (s : ByteArray) (hs : s.size ≤ maxLen) (w : World) : Calls Tryd.prog 41 #[.int .u32 n, .string s] w fun e w' => e = .returned (.int .u32 (addN n s.data.toList)) ∧ w' = w := by
  unfold maxLen at hs
  go_enter Tryd.func41, Tryd.ntmps41
  go_wp2_with fail
  go_loop [5, 6, 7] (fun va vb i => ∃ k a b : Nat, k ≤ s.size ∧ i = .int .i64 k ∧ va = .int .i64 a ∧ vb = .int .i64 b ∧ Hid (runN (halvesN n) (s.data.toList.take k) = (a, b))) (fun _ _ i => s.size - (intOf i).toNat)
  case atStart => exact ⟨0, n % 65536 % 65521, n / 65536 % 65521, Nat.zero_le _, rfl, by go_num, by go_num, rfl⟩
  case round =>
    obtain ⟨k, a, b, hk, rfl, rfl, rfl, HR⟩ := hrel
    have hlow : LowN (a, b) := by rw [← HR.out]; exact run_low (halves_low n) _
    obtain ⟨ha, hb⟩ := hlow
    have ha : a < 65521 := ha
    have hb : b < 65521 := hb
    by_cases hlt : k < s.size
    · have HR' : Hid (runN (halvesN n) (s.data.toList.take (k + 1)) = ((a + s[k].toNat) % 65521, (b + (a + s[k].toNat) % 65521) % 65521)) := by show _ = _; rw [run_take _ s k hlt, HR.out]; rfl
      have hc := UInt8.toNat_lt s[k]
      go_wp2_with fail
      go_round
      case rel => exact ⟨k + 1, _, _, hlt, by go_num, by go_num, by go_num, HR'⟩
      case measure => simp [intOf]; omega
    · go_wp2_with fail
      go_ret
      refine ⟨?_, rfl⟩
      have e1 := HR.out
      rw [List.take_of_length_le (by rw [Array.length_toList]; exact Nat.le_of_not_lt hlt)] at e1
      rw [addN, e1]
      rfl
set_option maxHeartbeats 400000 in
theorem rof_any (s : ByteArray) (hs : s.size ≤ maxLen) (w : World) : Calls Tryd.prog 28 #[.string s] w fun e w' => e = .returned (.int .u32 (addN 1 s.data.toList)) ∧ w' = w := by
  have HA := Lib.hid (radd_any 1 (by decide) s hs)
  clear hs
  go_enter Tryd.func28, Tryd.ntmps28
  go_wp2_with fail
  refine (HA.out _).mono ?_
  rintro e w1 ⟨rfl, rfl⟩
  go_wp2_with fail
  go_ret
  exact ⟨rfl, rfl⟩
theorem dig_ext (k : Nat) (h : k < 16) : (⟨#[48, 49, 50, 51, 52, 53, 54, 55, 56, 57, 97, 98, 99, 100, 101, 102]⟩ : ByteArray).extract k (k + 1) = txt [hxB k] := by
  rw [extract_txt]
  have : ∀ k : Fin 16, (List.drop k.1 (⟨#[48, 49, 50, 51, 52, 53, 54, 55, 56, 57, 97, 98, 99, 100, 101, 102]⟩ : ByteArray).data.toList).take 1 = [hxB k.1] := by decide
  rw [show k + 1 - k = 1 by omega]
  exact congrArg txt (this ⟨k, h⟩)
theorem dig_slice (m : Nat) (w : World) : (Instr.slice 9 (.string ⟨#[48, 49, 50, 51, 52, 53, 54, 55, 56, 57, 97, 98, 99, 100, 101, 102]⟩) (some (.int .i64 ((m : Int) % 16))) (some (.int .i64 ((m : Int) % 16 + 1))) none).run Tryd.prog w = .ok (.string (txt [hxB (m % 16)])) w := by
  have h : m % 16 < 16 := Nat.mod_lt _ (by decide)
  have e : (m : Int) % 16 = ((m % 16 : Nat) : Int) := by omega
  rw [e]
  generalize m % 16 = k at h
  rw [run_slice_string _ _ _ _ _ _ _ Tryd.underlying9 (by omega) (by omega) (by show ((k : Int) + 1) ≤ ((16 : Nat) : Int); omega)]
  rw [show ((k : Int) + 1).toNat = k + 1 by omega, show ((k : Int)).toNat = k by omega, dig_ext k h]
theorem digs_next (n k : Nat) : txt [hxB (n / 16 ^ k % 16)] ++ txt (digsN n k) = txt (digsN n (k + 1)) := by
  rw [← txt_toList (txt [hxB (n / 16 ^ k % 16)] ++ txt (digsN n k))]
  simp [ByteArray.data_append, txt, digsN]
set_option maxRecDepth 100000 in
set_option maxHeartbeats 1000000 in
theorem rhex_any (n : Nat) (hn : n < 4294967296) (w : World) : Calls Tryd.prog 27 #[.int .u32 n] w fun e w' => e = .returned (.string (txt (hexN n))) ∧ w' = w := by
  go_enter Tryd.func27, Tryd.ntmps27
  go_wp2_with fail
  go_loop [0, 3, 4] (fun v u i => ∃ (k m : Nat) (t : ByteArray), k ≤ 8 ∧ i = .int .i64 k ∧ v = .int .u32 m ∧ u = .string t ∧ t.size ≤ 8 ∧ Hid (m = n / 16 ^ k) ∧ Hid (t = txt (digsN n k))) (fun _ _ i => 8 - (intOf i).toNat)
  case atStart => exact ⟨0, n, _, Nat.zero_le _, rfl, rfl, rfl, by decide, by show _ = _; simp, rfl⟩
  case round =>
    obtain ⟨k, m, t, hk, rfl, rfl, rfl, ht, HM, HT⟩ := hrel
    have hm : m < 4294967296 := by rw [HM.out]; exact Nat.lt_of_le_of_lt (Nat.div_le_self _ _) hn
    by_cases hlt : k < 8
    · have hd := dig_slice m w
      have HN : Hid (txt [hxB (m % 16)] ++ t = txt (digsN n (k + 1))) := by show _ = _; rw [HM.out, HT.out]; exact digs_next n k
      have HM2 : Hid (m / 16 = n / 16 ^ (k + 1)) := by show _ = _; rw [HM.out, Nat.div_div_eq_div_mul, ← Nat.pow_succ]
      have hz : (txt [hxB (m % 16)] ++ t).size ≤ 8 := by rw [HN.out, txt_size, digs_len]; omega
      have hz2 : (txt [hxB (m % 16)]).size = 1 := rfl
      generalize txt [hxB (m % 16)] = u at hd HN hz hz2
      have hz3 : ¬ 9223372036854775807 < u.size + t.size := by omega
      clear hz2
      go_wp2_with fail
      go_round
      case rel => exact ⟨k + 1, m / 16, _, hlt, by go_num, by go_num, rfl, hz, HM2, HN⟩
      case measure => simp [intOf]; omega
    · obtain rfl : k = 8 := by omega
      go_wp2_with fail
      go_ret
      exact ⟨by rw [HT.out]; rfl, rfl⟩

end Go.Proofs.YtllkibdpjpdbbaaDoor
