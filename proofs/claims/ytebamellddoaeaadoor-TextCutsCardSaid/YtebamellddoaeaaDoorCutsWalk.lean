/-
  What the document's own Join answers of a short list; and that TextCuts answers true, whatever text and list it is handed.
-/
import Derived.Test.YtebamellddoaeaaDoorRefCut
import Derived.Test.YtebamellddoaeaaDoorShown
namespace Go.Proofs.YtebamellddoaeaaDoor
open Go.RowKit Go.Shelf

theorem joinOf_snoc (l : List ByteArray) (x : ByteArray) : joinOf (l ++ [x]) = if l = [] then x.data.toList else joinOf l ++ [32] ++ x.data.toList := by
  cases l with
  | nil => simp [joinOf, Lib.join_one]
  | cons a r =>
    rw [if_neg (by simp)]
    unfold joinOf
    rw [List.cons_append, List.map_cons, List.map_cons, Lib.join_cons, Lib.join_cons, List.map_append]
    simp [Lib.joinTail]

set_option maxRecDepth 100000 in
set_option maxHeartbeats 1000000 in
theorem refJoin_any (v : Value) (xs : List ByteArray) (w : World) (B : Nat) (hr : ReadsO w B v xs) (h : smallB xs = true) :
    Calls Tryd.prog 13 #[v] w fun e w' => e = .returned (.string (txt (joinOf xs))) ∧ w = w' := by
  have hsm : xs.length ≤ 40 ∧ ∀ x ∈ xs, x.size ≤ 300 := by
    simp only [smallB, Bool.and_eq_true, decide_eq_true_eq, List.all_eq_true] at h
    exact h
  obtain ⟨h40, h300⟩ := hsm
  obtain ⟨o, c, rfl, hx⟩ := hr
  have HX := Lib.hid hx
  have H3 := Lib.hid h300
  clear hx h300 h
  go_enter Tryd.func13, Tryd.ntmps13
  go_wp2
  go_loop [3, 4] (fun t i => ∃ k : Nat, k ≤ xs.length ∧ i = .int .i64 k ∧ t = .string (txt (joinOf (xs.take k))) ∧ (joinOf (xs.take k)).length ≤ 301 * k) (fun _ i => xs.length - (intOf i).toNat)
  case atStart => exact ⟨0, Nat.zero_le _, rfl, rfl, by simp [joinOf, Lib.join_nil]⟩
  case round =>
    obtain ⟨k, hk, rfl, rfl, hlen⟩ := hrel
    by_cases hlt : k < xs.length
    · obtain ⟨b, f, rfl, _, hkc, hcell⟩ := HX.out k xs[k] (List.getElem?_eq_getElem hlt)
      have hkc' : k < c := by omega
      have hx3 := H3.out xs[k] (List.getElem_mem hlt)
      have hsn : joinOf (xs.take (k + 1)) = if xs.take k = [] then xs[k].data.toList else joinOf (xs.take k) ++ [32] ++ xs[k].data.toList := by
        rw [List.take_succ_eq_append_getElem hlt, joinOf_snoc]
      generalize xs[k] = x at hcell hx3 hsn
      have hxl := size_list x
      by_cases hk0 : k = 0
      · subst hk0
        have HN : Hid (joinOf (xs.take 1) = x.data.toList) := by show _ = _; rw [hsn]; simp
        have e0 : txt (joinOf (xs.take 0)) = txt [] := rfl
        have hcell0 : w.cell? ⟨b, f, none⟩ = some (.string x) := by simpa using hcell
        have HL : Hid (x.data.toList.length ≤ 301 * 1) := by show _ ≤ _; rw [hxl]; omega
        rw [e0]
        have hcat : ¬ 9223372036854775807 < x.size := by omega
        clear hsn hxl hlen e0
        go_wp2
        go_round
        case rel =>
          refine ⟨1, hlt, rfl, ?_, by rw [HN.out]; exact HL.out⟩
          rw [HN.out, txt_toList]
          rfl
        case measure => simp [intOf]; omega
      · have d0 : decide (0 < (k : Int)) = true := by simp; omega
        have hne : xs.take k ≠ [] := by
          intro e
          have := congrArg List.length e
          rw [List.length_take, List.length_nil] at this
          omega
        rw [if_neg hne] at hsn
        have HL : Hid ((joinOf (xs.take (k + 1))).length ≤ 301 * (k + 1)) := by
          show _ ≤ _
          rw [hsn]; simp only [List.length_append, List.length_cons, List.length_nil]; omega
        have HN := Lib.hid hsn
        generalize joinOf (xs.take k) = j at hlen HN ⊢
        have hcat1 : ¬ 9223372036854775807 < j.length + 1 := by omega
        have hcat2 : ¬ 9223372036854775807 < j.length + 1 + x.size := by omega
        clear hsn hne hxl
        go_wp2
        go_round
        case rel =>
          refine ⟨k + 1, hlt, by go_num, ?_, HL.out⟩
          rw [HN.out, ← txt_app, ← txt_app, txt_toList]
          rfl
        case measure => simp [intOf]; omega
    · obtain rfl : k = xs.length := by omega
      rw [List.take_length]
      go_wp2
      go_ret
      exact ⟨rfl, rfl⟩

theorem joinOf_len (xs : List ByteArray) (h : smallB xs = true) : (joinOf xs).length ≤ 40000 := by
  have hsm : xs.length ≤ 40 ∧ ∀ x ∈ xs, x.size ≤ 300 := by
    simp only [smallB, Bool.and_eq_true, decide_eq_true_eq, List.all_eq_true] at h
    exact h
  obtain ⟨h40, h300⟩ := hsm
  have main : ∀ k, k ≤ xs.length → (joinOf (xs.take k)).length ≤ 301 * k := by
    intro k
    induction k with
    | zero => intro _; simp [joinOf, Lib.join_nil]
    | succ k ih =>
      intro hk
      have h1 := ih (by omega)
      have h2 := h300 xs[k] (List.getElem_mem hk)
      rw [List.take_succ_eq_append_getElem hk, joinOf_snoc]
      have h3 := size_list xs[k]
      split
      · rw [h3]; omega
      · simp only [List.length_append, List.length_cons, List.length_nil]; omega
  have := main xs.length (Nat.le_refl _)
  rw [List.take_length] at this
  omega

set_option maxRecDepth 100000 in
set_option maxHeartbeats 2000000 in
theorem textCuts_out (s : ByteArray) (v : Value) (xs : List ByteArray) (w : World) (hr : ReadsO w w.heap.size v xs) (hn : xs.length ≤ maxLen) (h : smallB xs = false ∨ smallB xs = true ∧ 1000 < s.size) :
    Calls Tryd.prog 3 #[.string s, v] w fun e w' => e = .returned (.bool true) ∧ Below w.heap.size w w' := by
  have hv := hr
  obtain ⟨o, c, rfl, hx0⟩ := hv
  clear hx0
  rcases h with h | ⟨h, h1000⟩
  · have HS : Hid (∀ w1 : World, Below w.heap.size w w1 → Calls Tryd.prog 6 #[.slice o xs.length c] w1 fun e w' => e = .returned (.bool false) ∧ w1 = w') := fun w1 hb => small_f _ xs w.heap.size w1 (hr.below hb (Nat.le_refl _)) hn h
    clear h hr
    go_enter Tryd.func3, Tryd.ntmps3
    go_wp2_with fail
    refine (shown_any w).mono ?_
    rintro e w1 ⟨rfl, hb1⟩
    go_wp2_with fail
    refine (HS.out w1 hb1).mono ?_
    rintro e w2 ⟨rfl, rfl⟩
    go_wp2_with fail
    go_ret
    exact ⟨rfl, hb1⟩
  · have HS : Hid (∀ w1 : World, Below w.heap.size w w1 → Calls Tryd.prog 6 #[.slice o xs.length c] w1 fun e w' => e = .returned (.bool true) ∧ w1 = w') := fun w1 hb => small_t _ xs w.heap.size w1 (hr.below hb (Nat.le_refl _)) hn h
    have e1 : decide (1000 < (s.size : Int)) = true := by simp; omega
    clear h hr
    go_enter Tryd.func3, Tryd.ntmps3
    go_wp2_with fail
    refine (shown_any w).mono ?_
    rintro e w1 ⟨rfl, hb1⟩
    go_wp2_with fail
    refine (HS.out w1 hb1).mono ?_
    rintro e w2 ⟨rfl, rfl⟩
    go_wp2_with fail
    go_ret
    exact ⟨rfl, hb1⟩

set_option maxRecDepth 100000 in
set_option maxHeartbeats 4000000 in
theorem textCuts_in (s : ByteArray) (hs : s.size ≤ 1000) (v : Value) (xs : List ByteArray) (w : World) (hr : ReadsO w w.heap.size v xs) (h : smallB xs = true) :
    Calls Tryd.prog 3 #[.string s, v] w fun e w' => e = .returned (.bool true) ∧ Below w.heap.size w w' := by
  have h40 : xs.length ≤ 40 := by
    simp only [smallB, Bool.and_eq_true, decide_eq_true_eq] at h
    exact h.1
  have hn : xs.length ≤ maxLen := by unfold maxLen; omega
  have hm : s.size ≤ maxLen := by unfold maxLen; omega
  have hjl := joinOf_len xs h
  have hv := hr
  obtain ⟨o, c, rfl, hx0⟩ := hv
  clear hx0
  have HS : Hid (∀ w1 : World, Below w.heap.size w w1 → Calls Tryd.prog 6 #[.slice o xs.length c] w1 fun e w' => e = .returned (.bool true) ∧ w1 = w') := fun w1 hb => small_t _ xs w.heap.size w1 (hr.below hb (Nat.le_refl _)) hn h
  have HJ : Hid (∀ w1 : World, Below w.heap.size w w1 → Calls Tryd.prog 12 #[.slice o xs.length c] w1 fun e w' => e = .returned (.string (txt (joinOf xs))) ∧ Below w1.heap.size w1 w') := fun w1 hb => textJoin_any _ xs w1 (hr.below hb hb.size) (by omega) (by omega)
  have HR : Hid (∀ w1 : World, Below w.heap.size w w1 → Calls Tryd.prog 13 #[.slice o xs.length c] w1 fun e w' => e = .returned (.string (txt (joinOf xs))) ∧ w1 = w') := fun w1 hb => refJoin_any _ xs w1 w.heap.size (hr.below hb (Nat.le_refl _)) h
  have e1 : decide (1000 < (s.size : Int)) = false := by simp; omega
  have hll : (linesOf s.data.toList).length ≤ maxLen := by
    have h1 := pieces_len nlB s.data.toList
    rw [size_list] at h1
    unfold maxLen linesOf
    split
    · simp; omega
    · rw [List.length_map]; omega
  have hwl : (wordsOf s.data.toList).length ≤ maxLen := by
    have h1 := wordsOf_len s.data.toList
    rw [size_list] at h1
    unfold maxLen; omega
  generalize txt (joinOf xs) = jt at HJ HR
  have ej : (jt.toList == jt.toList) = true := by simp
  obtain ⟨tt, htt⟩ : ∃ tt, tt = txt (trimOf s.data.toList) := ⟨_, rfl⟩
  have et : (tt.toList == tt.toList) = true := by simp
  have hT := fun w1 : World => trim_any s hm w1
  have hT2 := fun w1 : World => refTrim_any s hm w1
  rw [← htt] at hT hT2
  have HT := Lib.hid hT
  have HT2 := Lib.hid hT2
  clear h hr hjl htt hT hT2
  go_enter Tryd.func3, Tryd.ntmps3
  go_wp2_with fail
  refine (shown_any w).mono ?_
  rintro e w1 ⟨rfl, hb1⟩
  go_wp2_with fail
  refine (HS.out w1 hb1).mono ?_
  rintro e w2 ⟨rfl, rfl⟩
  go_wp2_with fail
  refine (lines_any s (by omega) w1).mono ?_
  rintro e w2 ⟨v2, rfl, hr2, hb2⟩
  have hB2 := hb1.trans (hb2.mono hb1.size)
  go_wp2_with fail
  refine (refLines_any s (by omega) w2).mono ?_
  rintro e w3 ⟨v3, rfl, hr3, hb3⟩
  have hB3 := hB2.trans (hb3.mono hB2.size)
  have hS := same_tb v2 v3 _ _ w3.heap.size w3 (hr2.below hb3 hb3.size) hr3 hll rfl
  have HSS := Lib.hid hS
  clear hS hr2 hr3 hb2 hb3 hB2 hb1
  go_wp2_with fail
  refine HSS.out.mono ?_
  rintro e w4 ⟨rfl, hb4⟩
  have hB4 := hB3.trans (hb4.mono hB3.size)
  clear HSS hB3 hb4
  go_wp2_with fail
  refine (words_any s (by omega) w4).mono ?_
  rintro e w5 ⟨v5, rfl, hr5, hb5⟩
  have hB5 := hB4.trans (hb5.mono hB4.size)
  go_wp2_with fail
  refine (refWords_any s (by omega) w5).mono ?_
  rintro e w6 ⟨v6, rfl, hr6, hb6⟩
  have hB6 := hB5.trans (hb6.mono hB5.size)
  have hS := same_tb v5 v6 _ _ w6.heap.size w6 (hr5.below hb6 hb6.size) hr6 hwl rfl
  have HSS := Lib.hid hS
  clear hS hr5 hr6 hb5 hb6 hB5 hB4
  go_wp2_with fail
  refine HSS.out.mono ?_
  rintro e w7 ⟨rfl, hb7⟩
  have hB7 := hB6.trans (hb7.mono hB6.size)
  clear HSS hB6 hb7
  go_wp2_with fail
  refine (HJ.out w7 hB7).mono ?_
  rintro e w8 ⟨rfl, hb8⟩
  have hB8 := hB7.trans (hb8.mono hB7.size)
  go_wp2_with fail
  refine (HR.out w8 hB8).mono ?_
  rintro e w9 ⟨rfl, rfl⟩
  clear hB7 hb8
  go_wp2_with fail
  refine (HT.out w8).mono ?_
  rintro e w9 ⟨rfl, hb9⟩
  have hB9 := hB8.trans (hb9.mono hB8.size)
  go_wp2_with fail
  refine (HT2.out w9).mono ?_
  rintro e w10 ⟨rfl, rfl⟩
  go_wp2_with fail
  go_ret
  exact ⟨rfl, hB9⟩

theorem textCuts_walk (s : ByteArray) (_hs : s.size ≤ maxLen) (v : Value) (xs : List ByteArray) (w : World) (hr : ReadsO w w.heap.size v xs) (hn : xs.length ≤ maxLen) :
    Calls Tryd.prog 3 #[.string s, v] w fun e w' => e = .returned (.bool true) ∧ Below w.heap.size w w' := by
  cases h : smallB xs with
  | false => exact textCuts_out s v xs w hr hn (.inl h)
  | true =>
    by_cases h1 : 1000 < s.size
    · exact textCuts_out s v xs w hr hn (.inr ⟨h, h1⟩)
    · exact textCuts_in s (by omega) v xs w hr h

end Go.Proofs.YtebamellddoaeaaDoor
