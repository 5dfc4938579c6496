/-
  TextPaths: a path is one word that stands for itself; two paths with a stroke between are one, as long as it is not too long, and has not too many parts: for every two texts. No condition.
-/
import Derived.Test.YtebamellddoaeaaRow
import Derived.Test.YtebamellddoaeaaQmath
namespace Go.Proofs.Ytebamellddoaeaa
open Go.ChangeShapes Go.WideShapes Go.ChangeAt Go.RowKit

def cuts (p : UInt8 → Bool) (l : List UInt8) : Nat := (l.filter p).length
theorem cuts_snoc (p : UInt8 → Bool) (l : List UInt8) (k : Nat) (h : k < l.length) : cuts p (l.take (k + 1)) = cuts p (l.take k) + if p l[k] then 1 else 0 := by
  unfold cuts
  rw [List.take_succ_eq_append_getElem h, List.filter_append, List.length_append]
  by_cases hp : p l[k] = true <;> simp [hp]
theorem cuts_le (p : UInt8 → Bool) (l : List UInt8) : cuts p l ≤ l.length := List.length_filter_le _ _
theorem pieces_count (p : UInt8 → Bool) (l : List UInt8) : (pieces p l).length = cuts p l + 1 := by
  induction l with
  | nil => rfl
  | cons c r ih =>
    unfold cuts at ih ⊢
    simp only [pieces]
    split
    · rename_i h; simp [h, ih]
    · rename_i h
      split
      · rename_i h' t e; rw [e] at ih; simp [h] at ih ⊢; exact ih
      · rename_i e; exact absurd e (pieces_ne p r)
theorem pieces_join (p : UInt8 → Bool) (a : List UInt8) (c : UInt8) (b : List UInt8) (hc : p c = true) : pieces p (a ++ c :: b) = pieces p a ++ pieces p b := by
  induction a with
  | nil => simp [pieces, hc]
  | cons x a ih =>
    simp only [List.cons_append, pieces, ih]
    split
    · simp
    · cases h : pieces p a with
      | nil => exact absurd h (pieces_ne p a)
      | cons y z => simp
theorem path_parts_of {l : List UInt8} (h : pathB l = true) : l.length ≤ 100 ∧ allB plainB l = true ∧ (pieces slashB l).all partL = true := by
  rw [pathB_eq] at h
  simp only [Bool.and_eq_true, decide_eq_true_eq] at h
  exact ⟨h.1.1.1, h.1.1.2, h.1.2⟩
theorem path_join {a b : List UInt8} (ha : pathB a = true) (hb : pathB b = true) : pathB (a ++ 47 :: b) = (decide ((a ++ 47 :: b).length ≤ 100) && decide (cuts slashB a + cuts slashB b + 2 ≤ 8)) := by
  obtain ⟨_, a2, a3⟩ := path_parts_of ha
  obtain ⟨_, b2, b3⟩ := path_parts_of hb
  rw [pathB_eq, pieces_join slashB a 47 b rfl, List.all_append, a3, b3]
  have el : (pieces slashB a ++ pieces slashB b).length = cuts slashB a + cuts slashB b + 2 := by rw [List.length_append, pieces_count, pieces_count]; omega
  rw [el]
  have e : allB plainB (a ++ 47 :: b) = true := by
    unfold allB at a2 b2 ⊢
    rw [List.all_append, List.all_cons, a2, b2]; rfl
  rw [e]
  simp
theorem path_bad (a b m : List UInt8) (hm : partL m = false) (l : List UInt8) (h : pieces slashB l = pieces slashB a ++ m :: pieces slashB b ∨ pieces slashB l = pieces slashB a ++ [m] ∨ pieces slashB l = m :: pieces slashB a) : pathB l = false := by
  rw [pathB_eq]
  have : (pieces slashB l).all partL = false := by
    rcases h with h | h | h <;> rw [h] <;> simp [hm]
  rw [this]; simp
theorem plain_not_blank {c : UInt8} (h : plainB c = true) : blankB c = false := by
  have := plain_cases h
  simp only [blankB, decide_eq_false_iff_not]
  omega
theorem path_word {l : List UInt8} (h : pathB l = true) : wordsOf l = [txt l] := by
  obtain ⟨_, h2, h3⟩ := path_parts_of h
  rw [wordsOf_eq, pieces_none blankB l (fun c hc => plain_not_blank (List.all_eq_true.1 h2 c hc))]
  cases l with
  | nil => revert h3; decide
  | cons c r => rfl

theorem quote_path (s : ByteArray) (hs : s.size ≤ 35184372088832) (h : pathB s.data.toList = true) (w : World) :
    Calls Try.prog 17 #[.string s] w fun e w' => e = .returned (.string s) ∧ Below w.heap.size w w' := by
  have := quote_any s hs w
  rwa [path_self _ h, txt_toList] at this
theorem words_path (s : ByteArray) (hs : s.size ≤ 8796093022207) (h : pathB s.data.toList = true) (w : World) :
    Calls Try.prog 20 #[.string s] w fun e W' => ∃ v, e = .returned v ∧ Reads W' W'.heap.size v [s] ∧ Below w.heap.size w W' := by
  have := words_any s hs w
  rwa [path_word h, txt_toList] at this
theorem path_u (s t : ByteArray) (hp : pathB s.data.toList = true) (hq : pathB t.data.toList = true) : pathB (s ++ ByteArray.mk #[47] ++ t).data.toList = (decide (s.size + 1 + t.size ≤ 100) && decide (cuts slashB s.data.toList + cuts slashB t.data.toList + 2 ≤ 8)) := by
  have e : (s ++ ByteArray.mk #[47] ++ t).data.toList = s.data.toList ++ 47 :: t.data.toList := by rw [append_list, append_list]; simp
  rw [e, path_join hp hq]
  have : (s.data.toList ++ 47 :: t.data.toList).length = s.size + 1 + t.size := by rw [List.length_append, List.length_cons, size_list, size_list]; omega
  rw [this]
theorem path_end (s : ByteArray) : pathB (s ++ ByteArray.mk #[47]).data.toList = false := by
  have e : (s ++ ByteArray.mk #[47]).data.toList = s.data.toList ++ 47 :: [] := by rw [append_list]
  exact path_bad s.data.toList [] [] rfl _ (.inr (.inl (by rw [e, pieces_join slashB _ 47 [] rfl]; rfl)))
theorem path_head (s : ByteArray) : pathB (ByteArray.mk #[47] ++ s).data.toList = false := by
  have e : (ByteArray.mk #[47] ++ s).data.toList = [] ++ 47 :: s.data.toList := by rw [append_list]; rfl
  exact path_bad s.data.toList [] [] rfl _ (.inr (.inr (by rw [e, pieces_join slashB [] 47 _ rfl]; rfl)))
theorem path_up (s t : ByteArray) : pathB (s ++ ByteArray.mk #[47, 46, 46, 47] ++ t).data.toList = false := by
  have e : (s ++ ByteArray.mk #[47, 46, 46, 47] ++ t).data.toList = s.data.toList ++ 47 :: ([46, 46] ++ 47 :: t.data.toList) := by rw [append_list, append_list]; simp
  exact path_bad s.data.toList t.data.toList [46, 46] rfl _ (.inl (by rw [e, pieces_join slashB _ 47 _ rfl, pieces_join slashB _ 47 _ rfl]; rfl))

set_option maxRecDepth 100000 in
set_option maxHeartbeats 2000000 in
theorem textPaths_out (s t : ByteArray) (h : 200 < s.size ∨ 200 < t.size) (w : World) : Calls Try.prog 7 #[.string s, .string t] w fun e w' => e = .returned (.bool true) ∧ Below w.heap.size w w' := by
  have tests : decide (200 < (s.size : Int)) = true ∨ (decide (200 < (s.size : Int)) = false ∧ decide (200 < (t.size : Int)) = true) := by
    simp only [decide_eq_true_eq, decide_eq_false_iff_not]; omega
  clear h
  rcases tests with h1 | ⟨h1, h2⟩
  all_goals
    go_enter Try.func7, Try.ntmps7
    go_wp2_with fail
    refine (shown_any w).mono ?_
    rintro e w1 ⟨rfl, hb1⟩
    go_wp2_with fail
    go_ret
    exact ⟨rfl, hb1⟩

set_option maxRecDepth 100000 in
set_option maxHeartbeats 2000000 in
theorem textPaths_none (s t : ByteArray) (hs : s.size ≤ 200) (ht : t.size ≤ 200) (h : pathB s.data.toList = false ∨ pathB s.data.toList = true ∧ pathB t.data.toList = false) (w : World) : Calls Try.prog 7 #[.string s, .string t] w fun e w' => e = .returned (.bool true) ∧ Below w.heap.size w w' := by
  have hm : s.size ≤ maxLen := by unfold maxLen; omega
  have hm2 : t.size ≤ maxLen := by unfold maxLen; omega
  have h1 : decide (200 < (s.size : Int)) = false := by simp; omega
  have h2 : decide (200 < (t.size : Int)) = false := by simp; omega
  rcases h with hp | ⟨hp, hq⟩
  · have HP := Lib.hid hp
    clear hp
    go_enter Try.func7, Try.ntmps7
    go_wp2_with fail
    refine (shown_any w).mono ?_
    rintro e w1 ⟨rfl, hb1⟩
    go_wp2_with fail
    refine (path_f s hm HP.out w1).mono ?_
    rintro e w2 ⟨rfl, hb2⟩
    go_wp2_with fail
    go_ret
    exact ⟨rfl, hb1.trans (hb2.mono hb1.size)⟩
  · have HP := Lib.hid hp
    have HQ := Lib.hid hq
    clear hp hq
    go_enter Try.func7, Try.ntmps7
    go_wp2_with fail
    refine (shown_any w).mono ?_
    rintro e w1 ⟨rfl, hb1⟩
    go_wp2_with fail
    refine (path_t s hm HP.out w1).mono ?_
    rintro e w2 ⟨rfl, hb2⟩
    have hb12 := hb1.trans (hb2.mono hb1.size)
    go_wp2_with fail
    refine (path_f t hm2 HQ.out w2).mono ?_
    rintro e w3 ⟨rfl, hb3⟩
    go_wp2_with fail
    go_ret
    exact ⟨rfl, hb12.trans (hb3.mono hb12.size)⟩

set_option maxRecDepth 100000 in
set_option maxHeartbeats 8000000 in
theorem textPaths_in (s t : ByteArray) (hs : s.size ≤ 200) (ht : t.size ≤ 200) (hp : pathB s.data.toList = true) (hq : pathB t.data.toList = true) (w : World) : Calls Try.prog 7 #[.string s, .string t] w fun e w' => e = .returned (.bool true) ∧ Below w.heap.size w w' := by
  have hm : s.size ≤ maxLen := by unfold maxLen; omega
  have hm2 : t.size ≤ maxLen := by unfold maxLen; omega
  have h1 : decide (200 < (s.size : Int)) = false := by simp; omega
  have h2 : decide (200 < (t.size : Int)) = false := by simp; omega
  have hs1 := size_list s
  have ht1 := size_list t
  have HP := Lib.hid hp
  have HQ := Lib.hid hq
  clear hp hq
  go_enter Try.func7, Try.ntmps7
  go_wp2_with fail
  refine (shown_any w).mono ?_
  rintro e w1 ⟨rfl, hb1⟩
  go_wp2_with fail
  refine (path_t s hm HP.out w1).mono ?_
  rintro e w2 ⟨rfl, hb2⟩
  have hb12 := hb1.trans (hb2.mono hb1.size)
  go_wp2_with fail
  refine (path_t t hm2 HQ.out w2).mono ?_
  rintro e w3 ⟨rfl, hb3⟩
  have hb13 := hb12.trans (hb3.mono hb12.size)
  have hcat1 : ¬ 9223372036854775807 < s.size + 1 := by omega
  have hcat2 : ¬ 9223372036854775807 < s.size + 1 + t.size := by omega
  clear hb1 hb2 hb12 hb3
  go_wp2_with fail
  go_loop [6, 8] (fun n i => ∃ k : Nat, k ≤ s.size ∧ i = .int .i64 k ∧ n = .int .i64 ((2 + cuts slashB (s.data.toList.take k) : Nat) : Int)) (fun _ i => s.size - (intOf i).toNat)
  case atStart => exact ⟨0, Nat.zero_le _, rfl, rfl⟩
  case round =>
    obtain ⟨k, hk, rfl, rfl⟩ := hrel
    have hcb := cuts_le slashB (s.data.toList.take k)
    have hcb2 : (s.data.toList.take k).length ≤ k := List.length_take_le _ _
    by_cases hlt : k < s.size
    · have hlt' : k < s.data.toList.length := by rw [Array.length_toList]; exact hlt
      have hgk : s.data.toList[k] = s[k] := by rw [Array.getElem_toList]; rfl
      have hsn := cuts_snoc slashB s.data.toList k hlt'
      rw [hgk] at hsn
      by_cases h47 : s[k].toNat = 47
      · have e47 : ((s[k].toNat : Int) == 47) = true := by simp; omega
        have HN : Hid (cuts slashB (s.data.toList.take (k + 1)) = cuts slashB (s.data.toList.take k) + 1) := by
          show _ = _
          rw [hsn, if_pos (by simp [slashB, h47])]
        clear hgk hsn h47
        go_wp2_with fail
        go_round
        case rel => exact ⟨k + 1, by omega, by go_num, by rw [HN.out]; go_num⟩
        case measure => simp [intOf]; omega
      · have e47 : ((s[k].toNat : Int) == 47) = false := by simp; omega
        have HN : Hid (cuts slashB (s.data.toList.take (k + 1)) = cuts slashB (s.data.toList.take k)) := by
          show _ = _
          rw [hsn, if_neg (by simp [slashB, h47])]; rfl
        clear hgk hsn h47
        go_wp2_with fail
        go_round
        case rel => exact ⟨k + 1, by omega, by go_num, by rw [HN.out]⟩
        case measure => simp [intOf]; omega
    · have hks : s.data.toList.take k = s.data.toList := List.take_of_length_le (by rw [Array.length_toList]; show s.size ≤ k; omega)
      rw [hks] at hcb
      rw [hks]
      rw [hs1] at hcb
      obtain ⟨c1, hc1⟩ : ∃ c1, c1 = cuts slashB s.data.toList := ⟨_, rfl⟩
      rw [← hc1] at hcb ⊢
      have HC1 := Lib.hid hc1
      clear hks hc1 hcb2
      go_wp2_with fail
      go_loop [6, 9] (fun n i => ∃ k : Nat, k ≤ t.size ∧ i = .int .i64 k ∧ n = .int .i64 ((2 + c1 + cuts slashB (t.data.toList.take k) : Nat) : Int)) (fun _ i => t.size - (intOf i).toNat)
      case atStart => exact ⟨0, Nat.zero_le _, rfl, rfl⟩
      case round =>
        obtain ⟨k, hk', rfl, rfl⟩ := hrel
        have hdb := cuts_le slashB (t.data.toList.take k)
        have hdb2 : (t.data.toList.take k).length ≤ k := List.length_take_le _ _
        by_cases hlt2 : k < t.size
        · have hlt2' : k < t.data.toList.length := by rw [Array.length_toList]; exact hlt2
          have hgk : t.data.toList[k] = t[k] := by rw [Array.getElem_toList]; rfl
          have hsn := cuts_snoc slashB t.data.toList k hlt2'
          rw [hgk] at hsn
          by_cases h47 : t[k].toNat = 47
          · have e47 : ((t[k].toNat : Int) == 47) = true := by simp; omega
            have HN : Hid (cuts slashB (t.data.toList.take (k + 1)) = cuts slashB (t.data.toList.take k) + 1) := by
              show _ = _
              rw [hsn, if_pos (by simp [slashB, h47])]
            clear hgk hsn h47
            go_wp2_with fail
            go_round
            case rel => exact ⟨k + 1, by omega, by go_num, by rw [HN.out]; go_num⟩
            case measure => simp [intOf]; omega
          · have e47 : ((t[k].toNat : Int) == 47) = false := by simp; omega
            have HN : Hid (cuts slashB (t.data.toList.take (k + 1)) = cuts slashB (t.data.toList.take k)) := by
              show _ = _
              rw [hsn, if_neg (by simp [slashB, h47])]; rfl
            clear hgk hsn h47
            go_wp2_with fail
            go_round
            case rel => exact ⟨k + 1, by omega, by go_num, by rw [HN.out]⟩
            case measure => simp [intOf]; omega
        · have hks : t.data.toList.take k = t.data.toList := List.take_of_length_le (by rw [Array.length_toList]; show t.size ≤ k; omega)
          rw [hks] at hdb
          rw [hks]
          rw [ht1] at hdb
          obtain ⟨c2, hc2⟩ : ∃ c2, c2 = cuts slashB t.data.toList := ⟨_, rfl⟩
          rw [← hc2] at hdb ⊢
          have HC2 := Lib.hid hc2
          clear hks hc2 hdb2
          go_wp2_with fail
          refine (quote_path s (by omega) HP.out w3).mono ?_
          rintro e w4 ⟨rfl, hb4⟩
          have hb14 := hb13.trans (hb4.mono hb13.size)
          have hself : (s.toList == s.toList) = true := by simp
          clear hb13 hb4
          go_wp2_with fail
          refine (words_path s (by omega) HP.out w4).mono ?_
          rintro e w5 ⟨v5, rfl, hr5, hb5⟩
          have hb15 := hb14.trans (hb5.mono hb14.size)
          have hs15 := hb15.size
          clear hb14 hb5
          go_wp2_with fail
          refine (same_tb v5 _ [s] [s] (w5.heap.size + 1) _ (hr5.below ((Below.refl _ w5).alloc (Nat.le_refl _) _) (by omega)) (built_reads w5 [s]) (by unfold maxLen; simp) rfl).mono ?_
          rintro e w6 ⟨rfl, hb6'⟩
          have hb16 := (hb15.alloc hb15.size _).trans (hb6'.mono (by simp; omega))
          clear hb6' hb15 hr5 hs15
          go_wp2_with fail
          have hu := path_u s t HP.out HQ.out
          rw [← HC1.out, ← HC2.out] at hu
          have hus : (s ++ ByteArray.mk #[47] ++ t).size ≤ maxLen := by rw [ByteArray.size_append, ByteArray.size_append]; unfold maxLen; show s.size + 1 + t.size ≤ _; omega
          have hcat3 : ¬ 9223372036854775807 < 1 + s.size := by omega
          have hcat4 : ¬ 9223372036854775807 < s.size + 4 := by omega
          have hcat5 : ¬ 9223372036854775807 < s.size + 4 + t.size := by omega
          have hus2 : (s ++ ByteArray.mk #[47]).size ≤ maxLen := by rw [ByteArray.size_append]; unfold maxLen; show s.size + 1 ≤ _; omega
          have hus3 : (ByteArray.mk #[47] ++ s).size ≤ maxLen := by rw [ByteArray.size_append]; unfold maxLen; show 1 + s.size ≤ _; omega
          have hus4 : (s ++ ByteArray.mk #[47, 46, 46, 47] ++ t).size ≤ maxLen := by rw [ByteArray.size_append, ByteArray.size_append]; unfold maxLen; show s.size + 4 + t.size ≤ _; omega
          by_cases hL : s.size + 1 + t.size ≤ 100
          · by_cases hC : c1 + c2 + 2 ≤ 8
            · have d1 : decide ((s.size : Int) + 1 + t.size ≤ 100) = true := by simp; omega
              have d2 : decide (2 + (c1 : Int) + c2 ≤ 8) = true := by simp; omega
              have HU : Hid (pathB (s ++ ByteArray.mk #[47] ++ t).data.toList = true) := by show pathB _ = _; rw [hu]; simp [hL, hC]
              clear hu hL hC
              refine (path_t (s ++ ByteArray.mk #[47] ++ t) hus HU.out w6).mono ?_
              rintro e w7 ⟨rfl, hb7⟩
              have hb17 := hb16.trans (hb7.mono hb16.size)
              clear hb16 hb7
              go_wp2_with fail
              refine (path_f (s ++ ByteArray.mk #[47]) hus2 (path_end s) w7).mono ?_
              rintro e w8 ⟨rfl, hb8⟩
              have hb18 := hb17.trans (hb8.mono hb17.size)
              clear hb17 hb8
              go_wp2_with fail
              refine (path_f (ByteArray.mk #[47] ++ s) hus3 (path_head s) w8).mono ?_
              rintro e w9 ⟨rfl, hb9⟩
              have hb19 := hb18.trans (hb9.mono hb18.size)
              clear hb18 hb9
              go_wp2_with fail
              refine (path_f (s ++ ByteArray.mk #[47, 46, 46, 47] ++ t) hus4 (path_up s t) w9).mono ?_
              rintro e wa ⟨rfl, hba⟩
              have hb1a := hb19.trans (hba.mono hb19.size)
              clear hb19 hba
              go_wp2_with fail
              go_ret
              exact ⟨rfl, hb1a⟩
            · have d1 : decide ((s.size : Int) + 1 + t.size ≤ 100) = true := by simp; omega
              have d2 : decide (2 + (c1 : Int) + c2 ≤ 8) = false := by simp; omega
              have HU : Hid (pathB (s ++ ByteArray.mk #[47] ++ t).data.toList = false) := by show pathB _ = _; rw [hu]; simp [hL, hC]
              clear hu hL hC
              refine (path_f (s ++ ByteArray.mk #[47] ++ t) hus HU.out w6).mono ?_
              rintro e w7 ⟨rfl, hb7⟩
              have hb17 := hb16.trans (hb7.mono hb16.size)
              clear hb16 hb7
              go_wp2_with fail
              refine (path_f (s ++ ByteArray.mk #[47]) hus2 (path_end s) w7).mono ?_
              rintro e w8 ⟨rfl, hb8⟩
              have hb18 := hb17.trans (hb8.mono hb17.size)
              clear hb17 hb8
              go_wp2_with fail
              refine (path_f (ByteArray.mk #[47] ++ s) hus3 (path_head s) w8).mono ?_
              rintro e w9 ⟨rfl, hb9⟩
              have hb19 := hb18.trans (hb9.mono hb18.size)
              clear hb18 hb9
              go_wp2_with fail
              refine (path_f (s ++ ByteArray.mk #[47, 46, 46, 47] ++ t) hus4 (path_up s t) w9).mono ?_
              rintro e wa ⟨rfl, hba⟩
              have hb1a := hb19.trans (hba.mono hb19.size)
              clear hb19 hba
              go_wp2_with fail
              go_ret
              exact ⟨rfl, hb1a⟩
          · by_cases hC : c1 + c2 + 2 ≤ 8
            · have d1 : decide ((s.size : Int) + 1 + t.size ≤ 100) = false := by simp; omega
              have d2 : decide (2 + (c1 : Int) + c2 ≤ 8) = true := by simp; omega
              have HU : Hid (pathB (s ++ ByteArray.mk #[47] ++ t).data.toList = false) := by show pathB _ = _; rw [hu]; simp [hL, hC]
              clear hu hL hC
              refine (path_f (s ++ ByteArray.mk #[47] ++ t) hus HU.out w6).mono ?_
              rintro e w7 ⟨rfl, hb7⟩
              have hb17 := hb16.trans (hb7.mono hb16.size)
              clear hb16 hb7
              go_wp2_with fail
              refine (path_f (s ++ ByteArray.mk #[47]) hus2 (path_end s) w7).mono ?_
              rintro e w8 ⟨rfl, hb8⟩
              have hb18 := hb17.trans (hb8.mono hb17.size)
              clear hb17 hb8
              go_wp2_with fail
              refine (path_f (ByteArray.mk #[47] ++ s) hus3 (path_head s) w8).mono ?_
              rintro e w9 ⟨rfl, hb9⟩
              have hb19 := hb18.trans (hb9.mono hb18.size)
              clear hb18 hb9
              go_wp2_with fail
              refine (path_f (s ++ ByteArray.mk #[47, 46, 46, 47] ++ t) hus4 (path_up s t) w9).mono ?_
              rintro e wa ⟨rfl, hba⟩
              have hb1a := hb19.trans (hba.mono hb19.size)
              clear hb19 hba
              go_wp2_with fail
              go_ret
              exact ⟨rfl, hb1a⟩
            · have d1 : decide ((s.size : Int) + 1 + t.size ≤ 100) = false := by simp; omega
              have d2 : decide (2 + (c1 : Int) + c2 ≤ 8) = false := by simp; omega
              have HU : Hid (pathB (s ++ ByteArray.mk #[47] ++ t).data.toList = false) := by show pathB _ = _; rw [hu]; simp [hL, hC]
              clear hu hL hC
              refine (path_f (s ++ ByteArray.mk #[47] ++ t) hus HU.out w6).mono ?_
              rintro e w7 ⟨rfl, hb7⟩
              have hb17 := hb16.trans (hb7.mono hb16.size)
              clear hb16 hb7
              go_wp2_with fail
              refine (path_f (s ++ ByteArray.mk #[47]) hus2 (path_end s) w7).mono ?_
              rintro e w8 ⟨rfl, hb8⟩
              have hb18 := hb17.trans (hb8.mono hb17.size)
              clear hb17 hb8
              go_wp2_with fail
              refine (path_f (ByteArray.mk #[47] ++ s) hus3 (path_head s) w8).mono ?_
              rintro e w9 ⟨rfl, hb9⟩
              have hb19 := hb18.trans (hb9.mono hb18.size)
              clear hb18 hb9
              go_wp2_with fail
              refine (path_f (s ++ ByteArray.mk #[47, 46, 46, 47] ++ t) hus4 (path_up s t) w9).mono ?_
              rintro e wa ⟨rfl, hba⟩
              have hb1a := hb19.trans (hba.mono hb19.size)
              clear hb19 hba
              go_wp2_with fail
              go_ret
              exact ⟨rfl, hb1a⟩

theorem textPaths_walk (s : ByteArray) (_hs : s.size ≤ maxLen) (t : ByteArray) (_ht : t.size ≤ maxLen) (w : World) : Calls Try.prog 7 #[.string s, .string t] w fun e w' => e = .returned (.bool true) ∧ Below w.heap.size w w' := by
  by_cases h : 200 < s.size ∨ 200 < t.size
  · exact textPaths_out s t h w
  · cases hp : pathB s.data.toList with
    | false => exact textPaths_none s t (by omega) (by omega) (.inl hp) w
    | true =>
      cases hq : pathB t.data.toList with
      | false => exact textPaths_none s t (by omega) (by omega) (.inr ⟨hp, hq⟩) w
      | true => exact textPaths_in s t (by omega) (by omega) hp hq w

set_option maxRecDepth 100000 in
theorem textPaths_lifted (os : Os) (started : os.Started) (H : Type) (enc : TypeId × Value → H) :
    ReturnsInHanded {} Try.checked os 7 .any (Rows.textPathsSpec.pre6 enc Try.prog Try.f7 Rows.textPathsRow.domain false) (Rows.textPathsSpec.post enc Try.prog Try.f7 false true false false) := by
  refine returnsInHanded_of_change (C := Try.checked) own_knob started (by kernel_rfl) Try.func7
    (ChangeSpec.witness6 (enc := enc) (C := Try.checked) false ⟨#[], #[.string ⟨#[]⟩, .string ⟨#[]⟩], []⟩ 8 (by kernel_rfl) (by kernel_rfl) (by kernel_rfl) (by kernel_rfl)) ?_
  intro W base args ds gs before hval0 hW _ _
  have hval : ∀ (j : Nat) t v, Try.f7.params[j]? = some t → args[j]? = some v → Value.okWide Try.prog W .any base t v := hval0
  have hW' := hW
  obtain ⟨p, q, hA0, hV, rfl, hfz, hnd⟩ := hW
  have hA : DataW.TrodAll enc Try.prog W 0 (fun _ => true) true Try.f7.params.toList args.toList ds p := hA0
  rw [Try.params7] at hA hval
  obtain ⟨v0, v1, d0, d1, p0, p1, rfl, rfl, rfl, h0, h1⟩ := trodAll_two hA
  obtain ⟨s0, rfl, rfl, rfl, ws0⟩ := Go.ChangeMaps.open_string Try.underlying9 (hval 0 9 v0 rfl rfl) h0
  obtain ⟨s1, rfl, rfl, rfl, ws1⟩ := Go.ChangeMaps.open_string Try.underlying9 (hval 1 9 v1 rfl rfl) h1
  obtain ⟨rfl, rfl⟩ := trodVars_none hV
  clear hA0 hval0
  simp only [List.append_nil] at hW'
  refine (textPaths_walk s0 ws0 s1 ws1 W).mono fun e W' h => ⟨.bool true, h.1, ?_⟩
  exact post_true hW' rfl (by kernel_rfl) Try.underlying4 rfl (fun sp _ => trodAll_mk2 (Go.ChangeMaps.shut_string Try.underlying9 ws0) (Go.ChangeMaps.shut_string Try.underlying9 ws1)) h.2

theorem textPaths_holds : Rows.TextPathsSaid :=
  OpenClaim.holds_of_wide 7 Try.f7 rfl rfl rfl rfl rfl rfl rfl ⟨rfl, rfl, rfl, rfl, rfl⟩ rfl rfl rfl rfl rfl (by kernel_rfl) Try.func7 (by kernel_rfl)
    (of_decide_eq_true (by kernel_rfl)) (by unfold Func.isWrapper; first | (rw [if_pos (by decide +kernel)]; kernel_rfl) | (rw [if_neg (by decide +kernel)]; exact ⟨rfl, rfl⟩))
    (fun os started H enc _ => textPaths_lifted os started H enc)

end Go.Proofs.Ytebamellddoaeaa
