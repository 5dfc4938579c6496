/-
  What text.Number and the document's own Number answer, for every text: the value of 1 to 9 digits that do not begin with 0, or of 0 alone, and true; else 0 and false.
-/
import Derived.IntWalk
import Derived.Test.YtebamellddoaeaaPath
namespace Go.Proofs.Ytebamellddoaeaa
open Go.RowKit Go.Shelf

def numVal (l : List UInt8) : Int := l.foldl (fun n c => n * 10 + ((c.toNat : Int) - 48)) 0
def numB (l : List UInt8) : Bool := !l.isEmpty && decide (l.length ≤ 9) && !(decide (1 < l.length) && l.head? == some 48) && allB digB l
def numV (l : List UInt8) : Int := if numB l then numVal l else 0

theorem numVal_snoc (l : List UInt8) (c : UInt8) : numVal (l ++ [c]) = numVal l * 10 + ((c.toNat : Int) - 48) := by simp [numVal]
theorem digB_bd {c : UInt8} (h : digB c = true) : 48 ≤ c.toNat ∧ c.toNat ≤ 57 := by simpa [digB] using h
theorem numVal_bd (l : List UInt8) (h : allB digB l = true) : 0 ≤ numVal l ∧ numVal l < 10 ^ l.length := by
  have main : ∀ m, m ≤ l.length → 0 ≤ numVal (l.take m) ∧ numVal (l.take m) < 10 ^ m := by
    intro m
    induction m with
    | zero => intro _; simp [numVal]
    | succ m ih =>
      intro hm
      have hlt : m < l.length := hm
      obtain ⟨h1, h2⟩ := ih (by omega)
      rw [List.take_succ_eq_append_getElem hlt, numVal_snoc]
      have hd := digB_bd (List.all_eq_true.1 h l[m] (List.getElem_mem hlt))
      have e : (10 : Int) ^ (m + 1) = 10 ^ m * 10 := by rw [Int.pow_succ]
      rw [e]
      omega
  have := main l.length (Nat.le_refl _)
  rwa [List.take_length] at this
theorem pow_le8 {k : Nat} (h : k ≤ 8) : (10 : Int) ^ k ≤ 100000000 := by
  have : k = 0 ∨ k = 1 ∨ k = 2 ∨ k = 3 ∨ k = 4 ∨ k = 5 ∨ k = 6 ∨ k = 7 ∨ k = 8 := by omega
  rcases this with rfl | rfl | rfl | rfl | rfl | rfl | rfl | rfl | rfl <;> decide
theorem numVal_small (l : List UInt8) (k : Nat) (hk : k ≤ 8) (h : allB digB (l.take k) = true) : 0 ≤ numVal (l.take k) ∧ numVal (l.take k) ≤ 100000000 := by
  have h1 := numVal_bd _ h
  have h2 : (l.take k).length ≤ 8 := Nat.le_trans (List.length_take_le _ _) hk
  have h3 := pow_le8 h2
  omega

theorem head_get (s : ByteArray) (h : 0 < s.size) : s.data.toList.head? = some s[0] := by
  have h' : 0 < s.data.toList.length := by rw [Array.length_toList]; exact h
  rw [List.head?_eq_getElem?, List.getElem?_eq_getElem h', Array.getElem_toList]; rfl

theorem numB_of (l : List UInt8) (n : Nat) (c : UInt8) (hl : l.length = n) (hh : l.head? = some c) (hn : n ≤ 9) (hz : ¬ (c.toNat = 48 ∧ 1 < n)) : numB l = allB digB l := by
  have e1 : l.isEmpty = false := by cases l <;> simp at hh ⊢
  have e2 : (decide (1 < l.length) && l.head? == some 48) = false := by
    rw [hl, hh]
    by_cases h1 : 1 < n
    · have : c ≠ 48 := fun h => hz ⟨by rw [h]; rfl, h1⟩
      simp [this]
    · simp [h1]
  unfold numB
  rw [e1, e2, hl]
  simp [hn]

set_option maxHeartbeats 400000 in
theorem digit_any (c : UInt8) (w : World) : Calls Try.prog 25 #[.int .u8 (c.toNat : Int)] w fun e w' => e = .returned (.bool (digB c)) ∧ w = w' := by
  by_cases h1 : 48 ≤ c.toNat <;> by_cases h2 : c.toNat ≤ 57
  all_goals first
    | (exfalso; omega)
    | (go_enter Try.func25, Try.ntmps25
       go_wp2
       go_ret
       exact ⟨ret_bool (by rw [Bool.eq_iff_iff]; simp [digB]; omega), rfl⟩)
theorem digit_t (c : UInt8) (w : World) (h : digB c = true) : Calls Try.prog 25 #[.int .u8 (c.toNat : Int)] w fun e w' => e = .returned (.bool true) ∧ w = w' := by
  have := digit_any c w; rwa [h] at this
theorem digit_f (c : UInt8) (w : World) (h : digB c = false) : Calls Try.prog 25 #[.int .u8 (c.toNat : Int)] w fun e w' => e = .returned (.bool false) ∧ w = w' := by
  have := digit_any c w; rwa [h] at this

def NumPost (s : ByteArray) (w : World) (e : Ending) (w' : World) : Prop := e = .returned (.tuple #[.int .i64 (numV s.data.toList), .bool (numB s.data.toList)]) ∧ w = w'
theorem num_no {s : ByteArray} {w : World} (h : numB s.data.toList = false) : NumPost s w (.returned (.tuple #[.int .i64 0, .bool false])) w := ⟨by simp [numV, h], rfl⟩
theorem num_yes {s : ByteArray} {w : World} (h : numB s.data.toList = true) : NumPost s w (.returned (.tuple #[.int .i64 (numVal s.data.toList), .bool true])) w := ⟨by simp [numV, h], rfl⟩

set_option maxRecDepth 100000 in
set_option maxHeartbeats 2000000 in
theorem number_any (s : ByteArray) (hs : s.size ≤ maxLen) (w : World) : Calls Try.prog 11 #[.string s] w (NumPost s w) := by
  unfold maxLen at hs
  have hsl := size_list s
  by_cases h0 : s.toList = []
  · have HN := Lib.hid (num_no (s := s) (w := w) (by rw [Lib.toList_data] at h0; simp [numB, h0]))
    clear hsl
    go_enter Try.func11, Try.ntmps11
    go_wp2
    go_ret2
    exact HN.out
  have h0e : s.toList.isEmpty = false := by simpa using h0
  have hpos : 0 < s.size := by
    rw [← hsl]; rw [Lib.toList_data] at h0; exact List.length_pos_iff.2 h0
  by_cases h9 : 9 < s.size
  · have HN := Lib.hid (num_no (s := s) (w := w) (by unfold numB; rw [hsl]; simp; omega))
    have h9' : decide (9 < (s.size : Int)) = true := by simp; omega
    clear hsl h0
    go_enter Try.func11, Try.ntmps11
    go_wp2
    go_ret2
    exact HN.out
  have h9' : decide (9 < (s.size : Int)) = false := by simp; omega
  have hhd := head_get s hpos
  by_cases hz : s[0].toNat = 48 ∧ 1 < s.size
  · obtain ⟨hz1, hz2⟩ := hz
    have HN := Lib.hid (num_no (s := s) (w := w) (by
      have : s[0] = 48 := UInt8.toNat_inj.1 (by rw [hz1]; rfl)
      unfold numB; rw [hsl, hhd, this]; simp [hz2]))
    have e1 : ((s[0].toNat : Int) == 48) = true := by simp; omega
    have e2 : decide (1 < (s.size : Int)) = true := by simp; omega
    clear hsl h0 hhd hz1
    go_enter Try.func11, Try.ntmps11
    go_wp2
    go_ret2
    exact HN.out
  have HB : Hid (numB s.data.toList = allB digB s.data.toList) := numB_of s.data.toList s.size s[0] hsl hhd (by omega) hz
  have hlead : ((s[0].toNat : Int) == 48) = false ∨ ((s[0].toNat : Int) == 48) = true ∧ decide (1 < (s.size : Int)) = false := by
    by_cases h : s[0].toNat = 48
    · right; refine ⟨by simp; omega, ?_⟩
      have : ¬ 1 < s.size := fun h1 => hz ⟨h, h1⟩
      simp; omega
    · left; simp; omega
  have H0 := Lib.hid h0
  clear hhd hz h0 hsl
  rcases hlead with hl1 | ⟨hl1, hl2⟩
  all_goals
    go_enter Try.func11, Try.ntmps11
    go_wp2
    go_loop [4, 25] (fun n i => ∃ k : Nat, k ≤ s.size ∧ i = .int .i64 k ∧ n = .int .i64 (numVal (s.data.toList.take k)) ∧ allB digB (s.data.toList.take k) = true) (fun _ i => s.size - (intOf i).toNat)
    case atStart => exact ⟨0, Nat.zero_le _, rfl, rfl, rfl⟩
    case round =>
      obtain ⟨k, hk, rfl, rfl, hall⟩ := hrel
      have HA := Lib.hid hall; clear hall
      by_cases hlt : k < s.size
      · have hlt' : k < s.data.toList.length := by rw [Array.length_toList]; exact hlt
        have hgk : s.data.toList[k] = s[k] := by rw [Array.getElem_toList]; rfl
        obtain ⟨hv1, hv2⟩ := numVal_small s.data.toList k (by omega) HA.out
        cases hp : digB s[k] with
        | true =>
          have HN : Hid (allB digB (s.data.toList.take (k + 1)) = true) := all_take HA.out hlt' (by rw [hgk]; exact hp)
          have HV : Hid (numVal (s.data.toList.take (k + 1)) = numVal (s.data.toList.take k) * 10 + ((s[k].toNat : Int) - 48)) := by
            show numVal _ = _
            rw [List.take_succ_eq_append_getElem hlt', numVal_snoc, hgk]
          obtain ⟨hd1, hd2⟩ := digB_bd hp
          have HP := Lib.hid hp; clear hp hgk
          go_wp2_with (go_at_call 24; refine (isDigit_t _ _ HP.out).mono ?_; rintro e w' ⟨rfl, rfl⟩)
          go_round
          case rel => exact ⟨k + 1, by omega, by go_num, by rw [HV.out], HN.out⟩
          case measure => simp [intOf]; omega
        | false =>
          have HN := Lib.hid (num_no (s := s) (w := w) (HB.out.trans (all_not hlt' (by rw [hgk]; exact hp))))
          have HP := Lib.hid hp; clear hp hgk
          go_wp2_with (go_at_call 24; refine (isDigit_f _ _ HP.out).mono ?_; rintro e w' ⟨rfl, rfl⟩)
          go_ret2
          exact HN.out
      · have hall : s.data.toList.take k = s.data.toList := List.take_of_length_le (by rw [Array.length_toList]; show s.size ≤ k; omega)
        have hY := num_yes (s := s) (w := w) (HB.out.trans (by rw [← hall]; exact HA.out))
        rw [← hall] at hY
        have HY : Hid (NumPost s w (.returned (.tuple #[.int .i64 (numVal (s.data.toList.take k)), .bool true])) w) := by
          show NumPost _ _ _ _
          rw [hall]; rw [hall] at hY; exact hY
        clear hY hall
        go_wp2
        go_ret2
        exact HY.out

set_option maxRecDepth 100000 in
set_option maxHeartbeats 2000000 in
theorem refNumber_any (s : ByteArray) (hs : s.size ≤ maxLen) (w : World) : Calls Try.prog 12 #[.string s] w (NumPost s w) := by
  unfold maxLen at hs
  have hsl := size_list s
  by_cases h0 : s.toList = []
  · have HN := Lib.hid (num_no (s := s) (w := w) (by rw [Lib.toList_data] at h0; simp [numB, h0]))
    have hs0 : s.size = 0 := by rw [← hsl, ← Lib.toList_data, h0]; rfl
    have e0 : decide ((s.size : Int) < 1) = true := by rw [hs0]; rfl
    clear hsl hs0
    go_enter Try.func12, Try.ntmps12
    go_wp2
    go_ret2
    exact HN.out
  have h0e : s.toList.isEmpty = false := by simpa using h0
  have hpos : 0 < s.size := by
    rw [← hsl]; rw [Lib.toList_data] at h0; exact List.length_pos_iff.2 h0
  have e0 : decide ((s.size : Int) < 1) = false := by simp; omega
  by_cases h9 : 9 < s.size
  · have HN := Lib.hid (num_no (s := s) (w := w) (by unfold numB; rw [hsl]; simp; omega))
    have h9' : decide (9 < (s.size : Int)) = true := by simp; omega
    clear hsl h0
    go_enter Try.func12, Try.ntmps12
    go_wp2
    go_ret2
    exact HN.out
  have h9' : decide (9 < (s.size : Int)) = false := by simp; omega
  have hhd := head_get s hpos
  by_cases hz : s[0].toNat = 48 ∧ 1 < s.size
  · obtain ⟨hz1, hz2⟩ := hz
    have HN := Lib.hid (num_no (s := s) (w := w) (by
      have : s[0] = 48 := UInt8.toNat_inj.1 (by rw [hz1]; rfl)
      unfold numB; rw [hsl, hhd, this]; simp [hz2]))
    have e1 : ((s[0].toNat : Int) == 48) = true := by simp; omega
    have e2 : decide (1 < (s.size : Int)) = true := by simp; omega
    clear hsl h0 hhd hz1
    go_enter Try.func12, Try.ntmps12
    go_wp2
    go_ret2
    exact HN.out
  have HB : Hid (numB s.data.toList = allB digB s.data.toList) := numB_of s.data.toList s.size s[0] hsl hhd (by omega) hz
  have hlead : decide (1 < (s.size : Int)) = false ∨ decide (1 < (s.size : Int)) = true ∧ ((s[0].toNat : Int) == 48) = false := by
    by_cases h : 1 < s.size
    · right; refine ⟨by simp; omega, ?_⟩
      have : ¬ s[0].toNat = 48 := fun h1 => hz ⟨h1, h⟩
      simp; omega
    · left; simp; omega
  have H0 := Lib.hid h0
  clear hhd hz h0 hsl
  rcases hlead with hl1 | ⟨hl1, hl2⟩
  all_goals
    go_enter Try.func12, Try.ntmps12
    go_wp2
    go_loop [4, 5] (fun n i => ∃ k : Nat, k ≤ s.size ∧ i = .int .i64 k ∧ n = .int .i64 (numVal (s.data.toList.take k)) ∧ allB digB (s.data.toList.take k) = true) (fun _ i => s.size - (intOf i).toNat)
    case atStart => exact ⟨0, Nat.zero_le _, rfl, rfl, rfl⟩
    case round =>
      obtain ⟨k, hk, rfl, rfl, hall⟩ := hrel
      have HA := Lib.hid hall; clear hall
      by_cases hlt : k < s.size
      · have hlt' : k < s.data.toList.length := by rw [Array.length_toList]; exact hlt
        have hgk : s.data.toList[k] = s[k] := by rw [Array.getElem_toList]; rfl
        obtain ⟨hv1, hv2⟩ := numVal_small s.data.toList k (by omega) HA.out
        cases hp : digB s[k] with
        | true =>
          have HN : Hid (allB digB (s.data.toList.take (k + 1)) = true) := all_take HA.out hlt' (by rw [hgk]; exact hp)
          have HV : Hid (numVal (s.data.toList.take (k + 1)) = numVal (s.data.toList.take k) * 10 + ((s[k].toNat : Int) - 48)) := by
            show numVal _ = _
            rw [List.take_succ_eq_append_getElem hlt', numVal_snoc, hgk]
          obtain ⟨hd1, hd2⟩ := digB_bd hp
          have HP := Lib.hid hp; clear hp hgk
          go_wp2_with (go_at_call 25; refine (digit_t _ _ HP.out).mono ?_; rintro e w' ⟨rfl, rfl⟩)
          go_round
          case rel => exact ⟨k + 1, by omega, by go_num, by rw [HV.out, Int.mul_comm], HN.out⟩
          case measure => simp [intOf]; omega
        | false =>
          have HN := Lib.hid (num_no (s := s) (w := w) (HB.out.trans (all_not hlt' (by rw [hgk]; exact hp))))
          have HP := Lib.hid hp; clear hp hgk
          go_wp2_with (go_at_call 25; refine (digit_f _ _ HP.out).mono ?_; rintro e w' ⟨rfl, rfl⟩)
          go_ret2
          exact HN.out
      · have hall : s.data.toList.take k = s.data.toList := List.take_of_length_le (by rw [Array.length_toList]; show s.size ≤ k; omega)
        have hY := num_yes (s := s) (w := w) (HB.out.trans (by rw [← hall]; exact HA.out))
        rw [← hall] at hY
        have HY : Hid (NumPost s w (.returned (.tuple #[.int .i64 (numVal (s.data.toList.take k)), .bool true])) w) := by
          show NumPost _ _ _ _
          rw [hall]; rw [hall] at hY; exact hY
        clear hY hall
        go_wp2
        go_ret2
        exact HY.out

end Go.Proofs.Ytebamellddoaeaa
