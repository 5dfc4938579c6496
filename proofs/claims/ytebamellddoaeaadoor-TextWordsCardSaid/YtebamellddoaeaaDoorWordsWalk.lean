/-
  That TextWords answers true, whatever two texts it is handed.
-/
import Derived.Deep.RegionHeld3
import Derived.Test.YtebamellddoaeaaDoorApp
import Derived.Test.YtebamellddoaeaaDoorWmath
import Derived.Test.YtebamellddoaeaaDoorShown
namespace Go.Proofs.YtebamellddoaeaaDoor
open Go.RowKit Go.Shelf

set_option maxRecDepth 100000 in
set_option maxHeartbeats 2000000 in
theorem textWords_out (s t : ByteArray) (hs : s.size ≤ maxLen) (ht : t.size ≤ maxLen) (w : World) (h : 500 < s.size ∨ s.size ≤ 500 ∧ 500 < t.size) :
    Calls Tryd.prog 4 #[.string s, .string t] w fun e w' => e = .returned (.bool true) ∧ Below w.heap.size w w' := by
  unfold maxLen at hs ht
  rcases h with h | ⟨h, h'⟩
  · have e1 : decide (500 < (s.size : Int)) = true := by simp; omega
    go_enter Tryd.func4, Tryd.ntmps4
    go_wp2_with fail
    refine (shown_any w).mono ?_
    rintro e w1 ⟨rfl, hb1⟩
    go_wp2_with fail
    go_ret
    exact ⟨rfl, hb1⟩
  · have e1 : decide (500 < (s.size : Int)) = false := by simp; omega
    have e2 : decide (500 < (t.size : Int)) = true := by simp; omega
    go_enter Tryd.func4, Tryd.ntmps4
    go_wp2_with fail
    refine (shown_any w).mono ?_
    rintro e w1 ⟨rfl, hb1⟩
    go_wp2_with fail
    go_ret
    exact ⟨rfl, hb1⟩

set_option maxRecDepth 100000 in
set_option maxHeartbeats 4000000 in
theorem textWords_in (s t : ByteArray) (hs : s.size ≤ 500) (ht : t.size ≤ 500) (w : World) :
    Calls Tryd.prog 4 #[.string s, .string t] w fun e w' => e = .returned (.bool true) ∧ Below w.heap.size w w' := by
  have e1 : decide (500 < (s.size : Int)) = false := by simp; omega
  have e2 : decide (500 < (t.size : Int)) = false := by simp; omega
  have HW1 : Hid (∀ w1 : World, Calls Tryd.prog 10 #[.string s] w1 fun e W' => ∃ v, e = .returned v ∧ Reads W' W'.heap.size v (wordsOf s.data.toList) ∧ Below w1.heap.size w1 W') := fun w1 => words_any s (by omega) w1
  have HWT : Hid (∀ w1 : World, Calls Tryd.prog 10 #[.string t] w1 fun e W' => ∃ v, e = .returned v ∧ Reads W' W'.heap.size v (wordsOf t.data.toList) ∧ Below w1.heap.size w1 W') := fun w1 => words_any t (by omega) w1
  have HWA : Hid (∀ w1 : World, Calls Tryd.prog 10 #[.string (s ++ ⟨#[32]⟩ ++ t)] w1 fun e W' => ∃ v, e = .returned v ∧ Reads W' W'.heap.size v (wordsOf s.data.toList ++ wordsOf t.data.toList) ∧ Below w1.heap.size w1 W') := fun w1 => by
    have := words_any (s ++ ⟨#[32]⟩ ++ t) (by rw [ByteArray.size_append, ByteArray.size_append, show (ByteArray.mk #[32]).size = 1 from rfl]; omega) w1
    have e : (s ++ ⟨#[32]⟩ ++ t).data.toList = s.data.toList ++ 32 :: t.data.toList := by simp [ByteArray.data_append]
    rwa [e, words_apart] at this
  have hmem := words_mem s.data.toList
  rw [size_list] at hmem
  have HWJ : Hid (∀ w1 : World, Calls Tryd.prog 10 #[.string (txt (joinOf (wordsOf s.data.toList)))] w1 fun e W' => ∃ v, e = .returned v ∧ Reads W' W'.heap.size v (wordsOf s.data.toList) ∧ Below w1.heap.size w1 W') := fun w1 => by
    have hl := joined_len 500 (wordsOf s.data.toList) (fun x hx => by have := (hmem x hx).2; omega)
    have hl2 := wordsOf_len s.data.toList
    rw [size_list] at hl2
    have e : (txt (joinOf (wordsOf s.data.toList))).data.toList = joinOf (wordsOf s.data.toList) := by rw [← Lib.toList_data, txt_toL]
    have := words_any (txt (joinOf (wordsOf s.data.toList))) (by rw [← size_list, e]; have := Nat.mul_le_mul_left 501 (show (wordsOf s.data.toList).length ≤ 501 by omega); omega) w1
    rwa [e, words_joined _ (fun x hx => (hmem x hx).1)] at this
  have hjl : (joinOf (wordsOf s.data.toList)).length ≤ 140737488355328 := by
    have hl := joined_len 500 (wordsOf s.data.toList) (fun x hx => by have := (hmem x hx).2; omega)
    have hl2 := wordsOf_len s.data.toList
    rw [size_list] at hl2
    have := Nat.mul_le_mul_left 501 (show (wordsOf s.data.toList).length ≤ 501 by omega)
    omega
  have hn : (wordsOf s.data.toList).length ≤ 501 := by have := wordsOf_len s.data.toList; rw [size_list] at this; omega
  have hm : (wordsOf t.data.toList).length ≤ 501 := by have := wordsOf_len t.data.toList; rw [size_list] at this; omega
  obtain ⟨tt, htt⟩ : ∃ tt, tt = txt (trimOf s.data.toList) := ⟨_, rfl⟩
  have HT1 : Hid (∀ w1 : World, Calls Tryd.prog 14 #[.string s] w1 fun e w' => e = .returned (.string tt) ∧ Below w1.heap.size w1 w') := fun w1 => by
    rw [htt]; exact trim_any s (by unfold maxLen; omega) w1
  have HT2 : Hid (∀ w1 : World, Calls Tryd.prog 14 #[.string tt] w1 fun e w' => e = .returned (.string tt) ∧ Below w1.heap.size w1 w') := fun w1 => by
    have e : tt.data.toList = trimOf s.data.toList := by rw [htt, ← Lib.toList_data, txt_toL]
    have hz : tt.size ≤ s.size := by
      rw [← size_list, ← size_list, e]
      have h1 : (cutL s.data.toList).length ≤ s.data.toList.length := (List.dropWhile_sublist _).length_le
      have h2 : ((cutL s.data.toList).reverse.dropWhile blankB).length ≤ (cutL s.data.toList).reverse.length := (List.dropWhile_sublist _).length_le
      rw [List.length_reverse] at h2
      unfold trimOf cutR
      rw [List.length_reverse]
      omega
    have := trim_any tt (by unfold maxLen; omega) w1
    rwa [e, trim_twice, ← htt] at this
  have et : (tt.toList == tt.toList) = true := by simp
  clear htt
  generalize wordsOf t.data.toList = ys at *
  generalize wordsOf s.data.toList = xs at *
  have HM := Lib.hid hmem
  have HJL := Lib.hid hjl
  clear hmem hjl
  have hcat1 : ¬ 9223372036854775807 < s.size + 1 := by omega
  have hcat2 : ¬ 9223372036854775807 < s.size + 1 + t.size := by omega
  go_enter Tryd.func4, Tryd.ntmps4
  go_wp2_with fail
  refine (shown_any w).mono ?_
  rintro e w1 ⟨rfl, hb1⟩
  go_wp2_with fail
  refine (HW1.out w1).mono ?_
  rintro e w2 ⟨v2, rfl, hr2, hb2⟩
  have hB2 := hb1.trans (hb2.mono hb1.size)
  have HR2 := Lib.hid hr2
  obtain ⟨o2, c2, rfl, hx2⟩ := hr2.o
  have HX2 := Lib.hid hx2
  clear hx2 hr2 hb1 hb2
  go_wp2_with fail
  go_loopw [7] (fun i wq => ∃ k : Nat, k ≤ xs.length ∧ i = .int .i64 k ∧ Below w2.heap.size w2 wq) (fun i _ => xs.length - (intOf i).toNat)
  case atStart => exact ⟨0, Nat.zero_le _, rfl, Below.refl _ _⟩
  case round =>
    obtain ⟨k, hk, rfl, hBq⟩ := hrel
    by_cases hlt : k < xs.length
    · obtain ⟨b, f, rfl, hbl, hc, hcell⟩ := HX2.out k xs[k] (List.getElem?_eq_getElem hlt)
      obtain ⟨hwd, hxz⟩ := HM.out xs[k] (List.getElem_mem hlt)
      have hkc : k < c2 := by omega
      have hk0 : (0 : Int) ≤ (k : Int) := Int.natCast_nonneg _
      have hk1 : (k : Int) < (xs.length : Int) := by omega
      generalize xs[k] = x at hcell hwd hxz
      have he := hwd.1
      have hself := str_ne_f (rfl : x = x)
      have HS : Hid (∀ w8 : World, Below w2.heap.size w2 w8 → w8.cell? ⟨b, f + k, none⟩ = some (.string x)) := fun w8 h8 => (h8.cell (p := ⟨b, f + k, none⟩) hbl).trans hcell
      have HT : Hid (∀ w8 : World, Below w2.heap.size w2 w8 → Calls Tryd.prog 14 #[.string x] w8 fun e w' => e = .returned (.string x) ∧ w'.cell? ⟨b, f + k, none⟩ = some (.string x) ∧ Below w2.heap.size w2 w') := fun w8 h8 => by
        have := trim_any x (by unfold maxLen; omega) w8
        rw [word_trim hwd] at this
        exact this.mono fun e w' h => ⟨h.1, HS.out _ (h8.trans (h.2.mono h8.size)), h8.trans (h.2.mono h8.size)⟩
      have HW : Hid (∀ w8 : World, Below w2.heap.size w2 w8 → Calls Tryd.prog 10 #[.string x] w8 fun e w' => ∃ o c, e = .returned (.slice o 1 c) ∧ w'.cell? ⟨b, f + k, none⟩ = some (.string x) ∧ Below w2.heap.size w2 w') := fun w8 h8 => by
        have := words_any x (by omega) w8
        rw [word_words hwd] at this
        refine this.mono ?_
        rintro e w' ⟨v, rfl, hr, hb⟩
        obtain ⟨o, c, rfl, _⟩ := hr.o
        exact ⟨o, c, rfl, HS.out _ (h8.trans (hb.mono h8.size)), h8.trans (hb.mono h8.size)⟩
      have hcq := HS.out _ hBq
      clear hcell hwd hxz HX2 HR2 HWA HWJ HWT HW1 HT1 HT2
      go_wp2_with fail
      go_region_held3 (fun w' => w'.cell? ⟨b, f + k, none⟩ = some (.string x) ∧ Below w2.heap.size w2 w')
        (first | exact ⟨by assumption, by assumption⟩ | exact ⟨by assumption, below_drew (by assumption)⟩ | (go_split_ands; exact ⟨by assumption, by assumption⟩))
        (first
          | (go_at_call 14; refine (HT.out _ ?_).mono ?_; (first | assumption | exact below_drew (by assumption)); rintro e w8 ⟨rfl, hc8, hb8⟩)
          | (go_at_call 10; refine (HW.out _ ?_).mono ?_; (first | assumption | exact below_drew (by assumption)); rintro e w8 ⟨o8, c8, rfl, hc8, hb8⟩))
      go_wp2_with fail
      go_roundw
      case rel => exact ⟨k + 1, hlt, by go_num, hb8⟩
      case measure => simp [intOf]; omega
    · have hB := hB2.trans (hBq.mono hB2.size)
      have hr := HR2.out.below hBq hBq.size
      have HJ := Lib.hid (textJoin_any _ xs wr hr.o (by omega) HJL.out)
      clear HX2 HM HR2 HW1 hBq hB2
      go_wp2_with fail
      refine HJ.out.mono ?_
      rintro e w3 ⟨rfl, hb3⟩
      have hB3 := hB.trans (hb3.mono hB.size)
      have hr3 := hr.below hb3 hb3.size
      clear HJ hr hB hb3
      go_wp2_with fail
      refine (HWJ.out w3).mono ?_
      rintro e w4 ⟨v4, rfl, hr4, hb4⟩
      have hB4 := hB3.trans (hb4.mono hB3.size)
      have hr4' := hr3.below hb4 hb4.size
      have HSS := Lib.hid (same_tb v4 _ xs xs w4.heap.size w4 hr4 hr4' (by unfold maxLen; omega) rfl)
      clear hr4 hr3 hB3 hb4 HWJ
      go_wp2_with fail
      refine HSS.out.mono ?_
      rintro e w5 ⟨rfl, hb5⟩
      have hB5 := hB4.trans (hb5.mono hB4.size)
      have hr5 := hr4'.below hb5 hb5.size
      clear hr4' HSS hB4 hb5
      go_wp2_with fail
      refine (HWA.out w5).mono ?_
      rintro e w6 ⟨v6, rfl, hr6, hb6⟩
      have hB6 := hB5.trans (hb6.mono hB5.size)
      have hr6' := hr5.below hb6 hb6.size
      have hal := (Below.refl w6.heap.size w6).alloc (Nat.le_refl _) (.cells #[] 9)
      have hown0 := built_none w6 w6.heap.size (Nat.le_refl _)
      clear hr5 hB5 hb6 HWA
      go_wp2_with (at_builtin; refine wpList_append_reads (by rfl) _ _ rfl w6.heap.size (w6.alloc (.cells #[] 9)).heap.size (.slice (some ⟨w6.heap.size, 0, none⟩) 0 0) _ [] xs rfl hown0 rfl (hr6'.below hal (by simp)) (by simp; omega) (by simp) ?_; intro v7 w7 hown7 hgrow7)
      rw [List.nil_append] at hown7
      have hb7 := hal.grown hgrow7 (by simp) (fun j ej => (hown0.lt j ej).1)
      have hB7 := hB6.trans (hb7.mono hB6.size)
      have hz7 := hb7.size
      clear hown0 hgrow7 hr6' hal
      go_wp2_with fail
      refine (HWT.out w7).mono ?_
      rintro e w8 ⟨v8, rfl, hr8, hb8⟩
      have hown8 := ownsRow_below hown7 hb8
      have hz8 := Nat.le_trans hz7 hb8.size
      have hb68 := hb7.trans (hb8.mono hz7)
      clear hown7 hB7 HWT hb8 hb7
      go_wp2_with (at_builtin; refine wpList_append_reads (by rfl) _ _ rfl w6.heap.size w8.heap.size v7 v8 xs ys rfl hown8 rfl hr8 (by omega) hz8 ?_; intro v9 w9 hown9 hgrow9)
      have hb69 := hb68.grown hgrow9 hz8 (fun j ej => (hown8.lt j ej).1)
      have hB9 := hB6.trans (hb69.mono hB6.size)
      have hr9 := hr6.below hb69 hb69.size
      have HSS := Lib.hid (same_tb v6 v9 (xs ++ ys) (xs ++ ys) w9.heap.size w9 hr9 (Reads.of_owns hown9) (by rw [List.length_append]; unfold maxLen; omega) rfl)
      clear hr9 hr6 hown9 hgrow9 hb69 hb68 hown8 hr8 hB6
      refine HSS.out.mono ?_
      rintro e w10 ⟨rfl, hb10⟩
      have hB10 := hB9.trans (hb10.mono hB9.size)
      clear HSS hB9 hb10
      go_wp2_with fail
      refine (HT1.out w10).mono ?_
      rintro e w11 ⟨rfl, hb11⟩
      have hB11 := hB10.trans (hb11.mono hB10.size)
      go_wp2_with fail
      refine (HT2.out w11).mono ?_
      rintro e w12 ⟨rfl, hb12⟩
      have hB12 := hB11.trans (hb12.mono hB11.size)
      go_wp2_with fail
      refine (HT1.out w12).mono ?_
      rintro e w13 ⟨rfl, hb13⟩
      have hB13 := hB12.trans (hb13.mono hB12.size)
      go_wp2_with fail
      go_ret
      exact ⟨rfl, hB13⟩

theorem textWords_walk (s : ByteArray) (hs : s.size ≤ maxLen) (t : ByteArray) (ht : t.size ≤ maxLen) (w : World) :
    Calls Tryd.prog 4 #[.string s, .string t] w fun e w' => e = .returned (.bool true) ∧ Below w.heap.size w w' := by
  by_cases h1 : 500 < s.size
  · exact textWords_out s t hs ht w (.inl h1)
  · by_cases h2 : 500 < t.size
    · exact textWords_out s t hs ht w (.inr ⟨by omega, h2⟩)
    · exact textWords_in s t (by omega) (by omega) w

end Go.Proofs.YtebamellddoaeaaDoor
