/-
  What the document's own functions value and Quote answer.
-/
import Derived.Test.YtllkibdpjpdbbaaDoorLUnquote
import Derived.Test.YtllkibdpjpdbbaaDoorLRefPlain
namespace Go.Proofs.YtllkibdpjpdbbaaDoor
open Go.RowKit Go.Shelf

theorem hex_extract (i : Nat) (h : i < 16) : (ByteArray.mk #[48, 49, 50, 51, 52, 53, 54, 55, 56, 57, 65, 66, 67, 68, 69, 70]).extract i (i + 1) = txt [hexOf i] := by
  rw [extract_txt]
  match i, h with
  | 0, _ => rfl
  | 1, _ => rfl
  | 2, _ => rfl
  | 3, _ => rfl
  | 4, _ => rfl
  | 5, _ => rfl
  | 6, _ => rfl
  | 7, _ => rfl
  | 8, _ => rfl
  | 9, _ => rfl
  | 10, _ => rfl
  | 11, _ => rfl
  | 12, _ => rfl
  | 13, _ => rfl
  | 14, _ => rfl
  | 15, _ => rfl
  | _ + 16, h => exact absurd h (by omega)
theorem hex_at (i : Nat) (h : i < 16) (h' : i < (ByteArray.mk #[48, 49, 50, 51, 52, 53, 54, 55, 56, 57, 65, 66, 67, 68, 69, 70]).size) : (ByteArray.mk #[48, 49, 50, 51, 52, 53, 54, 55, 56, 57, 65, 66, 67, 68, 69, 70])[i]'h' = hexOf i := hex_get i h h'
theorem value_found {c : UInt8} {k : Nat} (hk : k < 16) (h : hexOf k = c) : Lib.indexByte [48, 49, 50, 51, 52, 53, 54, 55, 56, 57, 65, 66, 67, 68, 69, 70] c = k := by
  rcases hex_case c with ⟨_, h2⟩ | ⟨i, hi, h1, h2⟩
  · exact absurd h (h2 k hk)
  · rw [h1, hexOf_inj i k hi hk (h2.trans h.symm)]
theorem value_none {c : UInt8} (h : ∀ j, j < 16 → hexOf j ≠ c) : Lib.indexByte [48, 49, 50, 51, 52, 53, 54, 55, 56, 57, 65, 66, 67, 68, 69, 70] c = -1 := by
  rcases hex_case c with ⟨h1, _⟩ | ⟨i, hi, _, h2⟩
  · exact h1
  · exact absurd h2 (h i hi)
set_option maxRecDepth 100000 in
set_option maxHeartbeats 1000000 in
theorem value_any (c : UInt8) (w : World) : Calls Tryd.prog 47 #[.int .u8 (c.toNat : Int)] w fun e w' => e = .returned (.int .i64 (Lib.indexByte [48, 49, 50, 51, 52, 53, 54, 55, 56, 57, 65, 66, 67, 68, 69, 70] c)) ∧ w = w' := by
  go_enter Tryd.func47, Tryd.ntmps47
  go_wp2
  go_loop [3] (fun i => ∃ k : Nat, k ≤ 16 ∧ i = .int .i64 k ∧ ∀ j, j < k → hexOf j ≠ c) (fun i => 16 - (intOf i).toNat)
  case atStart => exact ⟨0, Nat.zero_le _, rfl, by omega⟩
  case round =>
    obtain ⟨k, hk, rfl, hno⟩ := hrel
    have HN := Lib.hid hno
    clear hno
    by_cases hlt : k < 16
    · have hb : (k : Int) < 16 := by omega
      have hg := hex_at k hlt (by exact hlt)
      by_cases he : hexOf k = c
      · have HV := Lib.hid (value_found hlt he)
        have e1 : (((ByteArray.mk #[48, 49, 50, 51, 52, 53, 54, 55, 56, 57, 65, 66, 67, 68, 69, 70])[k]'(by exact hlt)).toNat : Int) == c.toNat := by rw [hg, he]; simp
        clear hg he
        go_wp2
        go_ret
        exact ⟨by rw [HV.out]; rfl, rfl⟩
      · have e1 : ((((ByteArray.mk #[48, 49, 50, 51, 52, 53, 54, 55, 56, 57, 65, 66, 67, 68, 69, 70])[k]'(by exact hlt)).toNat : Int) == c.toNat) = false := by
          rw [hg, beq_eq_false_iff_ne]
          intro h
          exact he (UInt8.toNat_inj.1 (by omega))
        have HN2 : Hid (∀ j, j < k + 1 → hexOf j ≠ c) := fun j hj => by
          rcases Nat.lt_or_ge j k with h | h
          · exact HN.out j h
          · rw [show j = k by omega]; exact he
        clear hg he
        go_wp2
        go_round
        case rel => exact ⟨k + 1, by omega, by go_num, HN2.out⟩
        case measure => simp [intOf]; omega
    · have hb : ¬ (k : Int) < 16 := by omega
      have HV := Lib.hid (value_none (c := c) (fun j hj => HN.out j (by omega)))
      go_wp2
      go_ret
      exact ⟨by rw [HV.out]; rfl, rfl⟩
set_option maxRecDepth 100000 in
set_option maxHeartbeats 2000000 in
theorem refQuote_any (s : ByteArray) (hs : s.size ≤ 1000000) (w : World) : Calls Tryd.prog 26 #[.string s] w fun e w' => e = .returned (.string (txt (quoteOf s.data.toList))) ∧ ∃ m, w' = w.drewN m := by
  go_enter Tryd.func26, Tryd.ntmps26
  go_wp2
  go_loopw [3, 4] (fun o i wr => ∃ k m : Nat, k ≤ s.size ∧ i = .int .i64 k ∧ o = .string (txt (quoAll (s.data.toList.take k))) ∧ wr = w.drewN m) (fun _ i _ => s.size - (intOf i).toNat)
  case atStart => exact ⟨0, 0, Nat.zero_le _, rfl, rfl, rfl⟩
  case round =>
    obtain ⟨k, m, hk, rfl, rfl, rfl⟩ := hrel
    have hql : (quoAll (s.data.toList.take k)).length ≤ 3 * k := by
      have h1 := quoAll_len (s.data.toList.take k)
      have h2 : (s.data.toList.take k).length ≤ k := List.length_take_le _ _
      omega
    by_cases hlt : k < s.size
    · have hlt' : k < s.data.toList.length := by rw [Array.length_toList]; exact hlt
      have hgk : s.data.toList[k] = s[k] := by rw [Array.getElem_toList]; rfl
      have hts : quoAll (s.data.toList.take (k + 1)) = quoAll (s.data.toList.take k) ++ quo s[k] := by
        rw [List.take_succ_eq_append_getElem hlt', quoAll_snoc, hgk]
      obtain ⟨o, ho⟩ : ∃ o, o = quoAll (s.data.toList.take k) := ⟨_, rfl⟩
      rw [← ho] at hts hql ⊢
      have HT := Lib.hid hts
      clear hts hgk ho
      cases hp : plainB s[k] with
      | true =>
        have HP := Lib.hid hp; clear hp
        have hcat : ¬ 9223372036854775807 < o.length + (min (k + 1) s.size - k) := by omega
        go_wp2_with (go_at_call 40; refine (refPlain_t _ _ HP.out).mono ?_; rintro e w' ⟨rfl, rfl⟩)
        go_roundw
        case rel =>
          refine ⟨k + 1, m, hlt, by go_num, ?_, rfl⟩
          rw [HT.out, quo, if_pos HP.out, extract_one s k hlt, txt_append]
        case measure => simp [intOf]; omega
      | false =>
        have HP := Lib.hid hp; clear hp
        have hd1 : (s[k].toNat : Int) / 16 < 16 := by have := s[k].toNat_lt; omega
        have hd2 : s[k].toNat / 16 < 16 := by omega
        have hm2 : s[k].toNat % 16 < 16 := Nat.mod_lt _ (by omega)
        go_wp2_with (go_at_call 40; refine (refPlain_f _ _ HP.out).mono ?_; rintro e w' ⟨rfl, rfl⟩)
        have hcat1 : ¬ 9223372036854775807 < o.length + 1 := by omega
        have hcat2 : ¬ 9223372036854775807 < o.length + 1 + 1 := by omega
        have hcat3 : ¬ 9223372036854775807 < o.length + 1 + 1 + 1 := by omega
        go_quiet (fail)
        go_wp2
        go_roundw
        case rel =>
          refine ⟨k + 1, m + nq, hlt, by go_num, ?_, rfl⟩
          rw [HT.out, quo, if_neg (by rw [HP.out]; simp), hex_extract _ hd2, hex_extract _ hm2, show (ByteArray.mk #[37]) = txt [37] from rfl, txt_append, txt_append, txt_append]
          simp
        case measure => simp [intOf]; omega
    · obtain rfl : k = s.size := by omega
      have hall : s.data.toList.take s.size = s.data.toList := List.take_of_length_le (by rw [Array.length_toList]; exact Nat.le_refl _)
      rw [hall]
      clear hall hql
      by_cases h0 : s.toList = []
      · have HQ : Hid (quoteOf s.data.toList = [37]) := by show _ = _; rw [← Lib.toList_data, h0]; rfl
        go_wp2
        go_ret
        exact ⟨by rw [HQ.out]; rfl, m, rfl⟩
      · have e0 : s.toList.isEmpty = false := by simpa using h0
        have HQ : Hid (quoteOf s.data.toList = quoAll s.data.toList) := by show _ = _; unfold quoteOf; rw [if_neg (by rw [← Lib.toList_data]; exact h0)]
        clear h0
        go_wp2
        go_ret
        exact ⟨by rw [HQ.out]; rfl, m, rfl⟩

end Go.Proofs.YtllkibdpjpdbbaaDoor
