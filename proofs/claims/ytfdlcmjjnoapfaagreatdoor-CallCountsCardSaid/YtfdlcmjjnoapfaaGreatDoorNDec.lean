/-
  Digits of a number read again; what word, wordlist and words answer at places told in digits. No program.
-/
import Derived.Test.YtfdlcmjjnoapfaaGreatDoorNWd
namespace Go.Proofs.YtfdlcmjjnoapfaaGreatDoor

theorem digit_nat (n : Nat) : (digitOf n).toNat = 48 + n % 10 := by
  unfold digitOf
  have : n % 10 < 10 := Nat.mod_lt _ (by omega)
  rw [UInt8.toNat_ofNat']
  omega
theorem digit_is (n : Nat) : digB (digitOf n) = true := by
  have : n % 10 < 10 := Nat.mod_lt _ (by omega)
  unfold digB
  rw [digit_nat]
  exact decide_eq_true (by omega)
theorem dec_all : ∀ (k n : Nat), n ≤ k → allB digB (decOf n) = true ∧ numVal (decOf n) = (n : Int) ∧ decOf n ≠ [] ∧ (1 ≤ n → (decOf n).head? ≠ some 48) := by
  intro k
  induction k with
  | zero =>
    intro n h
    obtain rfl : n = 0 := by omega
    have e : decOf 0 = [48] := by rw [decOf]; rfl
    rw [e]
    exact ⟨by decide, by decide, by simp, by omega⟩
  | succ k ih =>
    intro n h
    rw [decOf]
    by_cases h10 : n < 10
    · rw [if_pos h10]
      refine ⟨by unfold allB; simp [digit_is], ?_, by simp, fun h1 hh => ?_⟩
      · have := digit_nat n
        unfold numVal
        simp only [List.foldl_cons, List.foldl_nil]
        omega
      · have e : digitOf n = 48 := by simpa using hh
        have := digit_nat n
        rw [e] at this
        have h48 : (48 : UInt8).toNat = 48 := rfl
        omega
    · rw [if_neg h10]
      obtain ⟨h1, h2, h3, h4⟩ := ih (n / 10) (by omega)
      refine ⟨?_, ?_, by simp, fun _ => ?_⟩
      · unfold allB at h1 ⊢
        rw [List.all_append, h1]
        simp [digit_is]
      · rw [numVal_snoc, h2]
        have := digit_nat n
        omega
      · have h5 := h4 (by omega)
        cases hd : decOf (n / 10) with
        | nil => exact absurd hd h3
        | cons x r => rw [hd] at h5; simpa using h5
theorem dec_short : ∀ (k n : Nat), n < 10 ^ (k + 1) → (decOf n).length ≤ k + 1 := by
  intro k
  induction k with
  | zero =>
    intro n h
    rw [decOf, if_pos (by simpa using h)]
    simp
  | succ k ih =>
    intro n h
    rw [decOf]
    split
    · simp
    · rw [List.length_append, List.length_singleton]
      have := ih (n / 10) (Nat.div_lt_of_lt_mul (by rw [Nat.pow_succ] at h; omega))
      omega
theorem dec_num (n : Nat) (h : n ≤ 99999) : numB (decOf n) = true ∧ numV (decOf n) = (n : Int) := by
  obtain ⟨h1, h2, h3, h4⟩ := dec_all n n (Nat.le_refl _)
  have h5 : (decOf n).length ≤ 5 := dec_short 4 n (by omega)
  have e : (decide (1 < (decOf n).length) && (decOf n).head? == some 48) = false := by
    rcases Nat.eq_zero_or_pos n with rfl | hp
    · have e : decOf 0 = [48] := by rw [decOf]; rfl
      rw [e]; rfl
    · have := h4 hp
      rw [Bool.and_eq_false_iff]
      right
      exact beq_eq_false_iff_ne.2 this
  have e2 : (decOf n).isEmpty = false := by cases hd : decOf n <;> simp_all
  have hB : numB (decOf n) = true := by
    unfold numB
    rw [e, e2, h1, decide_eq_true (show (decOf n).length ≤ 9 by omega)]
    rfl
  exact ⟨hB, by unfold numV; rw [hB, if_pos rfl]; exact h2⟩
theorem dig_noblank (c : UInt8) (h : digB c = true) : blankB c = false := by
  have := digB_bd h
  cases hb : blankB c with
  | false => rfl
  | true =>
    exfalso
    unfold blankB at hb
    simp at hb
    omega
theorem dec_trim (n : Nat) : trimOf (decOf n) = decOf n := by
  have h1 := (dec_all n n (Nat.le_refl _)).1
  unfold allB at h1
  rw [List.all_eq_true] at h1
  refine trim_id ⟨fun c hc => dig_noblank c (h1 c ?_), fun c hc => dig_noblank c (h1 c (List.mem_of_getLast? hc))⟩
  cases hd : decOf n with
  | nil => rw [hd] at hc; cases hc
  | cons x r => rw [hd] at hc; simp at hc; simp [hc]
theorem wordT_dec (a b : Nat) (t : BT) (ha : a ≤ 99999) (hb : b ≤ 99999) (h1 : 1 ≤ a) : wordT (decOf a) (decOf b) t = some (joinT (((wordsT t).take b).drop (a - 1))) := by
  unfold wordT
  rw [dec_trim, dec_trim, if_pos ⟨(dec_num a ha).1, (dec_num b hb).1, by rw [(dec_num a ha).2]; omega⟩, (dec_num a ha).2, (dec_num b hb).2]
  rfl
theorem part_len (t : BT) (a b : Nat) : (joinT (((wordsT t).take b).drop a)).length ≤ t.length := by
  have h1 := wt_join (((wordsT t).take b).drop a)
  have h2 := wt_drop ((wordsT t).take b) a
  have h3 := wt_take (wordsT t) b
  have h4 := wt_words t
  omega
theorem told_word (a : Nat) (t : BT) (ha : a ≤ 99999) (h1 : 1 ≤ a) (ht : t.length ≤ 4000) : (callT nWord [decOf a, t]).1 = joinT (((wordsT t).take a).drop (a - 1)) := by
  have : callT nWord [decOf a, t] = finT (wordT (decOf a) (decOf a) t) := rfl
  rw [this, wordT_dec a a t ha ha h1, fin_ok (by have := part_len t (a - 1) a; omega)]
theorem told_wlist (a b : Nat) (t : BT) (ha : a ≤ 99999) (hb : b ≤ 99999) (h1 : 1 ≤ a) (ht : t.length ≤ 4000) : (callT nWordlist [decOf a, decOf b, t]).1 = joinT (((wordsT t).take b).drop (a - 1)) := by
  have : callT nWordlist [decOf a, decOf b, t] = finT (wordT (decOf a) (decOf b) t) := rfl
  rw [this, wordT_dec a b t ha hb h1, fin_ok (by have := part_len t (a - 1) b; omega)]
theorem told_count (t : BT) (ht : t.length ≤ 4000) : (callT nWords [t]).1 = decOf (wordsT t).length := by
  have : callT nWords [t] = finT (some (decOf (wordsT t).length)) := rfl
  rw [this, fin_ok (by have := dec_len (wordsT t).length (by have := words_few t; omega); omega)]
theorem word_nth (t : BT) (i : Nat) (x : BT) (h : (wordsT t)[i]? = some x) : joinT (((wordsT t).take (i + 1)).drop i) = x := by
  have ht : (wordsT t).take (i + 1) = (wordsT t).take i ++ [x] := by rw [List.take_add_one, h]; rfl
  have hl : ((wordsT t).take i).length = i := by rw [List.length_take]; have := (List.getElem?_eq_some_iff.1 h).1; omega
  rw [ht, List.drop_append_of_le_length (by omega), List.drop_of_length_le (by omega), List.nil_append]
  exact joinT_one x
theorem dec_one : decOf 1 = [49] := by rw [decOf]; rfl
end Go.Proofs.YtfdlcmjjnoapfaaGreatDoor
