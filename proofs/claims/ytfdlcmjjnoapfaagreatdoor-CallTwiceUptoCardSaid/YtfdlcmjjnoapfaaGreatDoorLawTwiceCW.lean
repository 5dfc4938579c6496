/-
  CallTwice, the walk: it answers true for every two patterns and every text, of bulk at most 1048576. No other condition.
-/
import Derived.OwnWalkIn
import Derived.LoopIn
import Derived.LoopNIn
import Derived.WalkSpells
import Derived.Test.YtfdlcmjjnoapfaaGreatDoorNWk
namespace Go.Proofs.YtfdlcmjjnoapfaaGreatDoor
open Go.RowKit Go.Shelf
attribute [local go_sem] Oper.semAt_some

theorem call_pat (a b t : BT) : (callT nPatsubst [a, b, t]).1 = if (joinT ((wordsT t).map (substL a b))).length ≤ 4000 then joinT ((wordsT t).map (substL a b)) else [] := by
  have : callT nPatsubst [a, b, t] = finT (some (joinT ((wordsT t).map (substL a b)))) := rfl
  rw [this]
  unfold finT
  simp only
  split <;> rfl
theorem call_pat1 {a b x : BT} (hx : WordB x) (h : x.length + b.length ≤ 4000) : (callT nPatsubst [a, b, x]).1 = substL a b x := by
  have h1 := substL_len a b x
  rw [call_pat, word_words hx, List.map_cons, List.map_nil, joinT_one, if_pos (by omega)]

set_option maxRecDepth 100000 in
set_option maxHeartbeats 4000000 in
theorem callTwice_walk (s0 : ByteArray) (hs0 : s0.size ≤ maxLen) (s1 : ByteArray) (hs1 : s1.size ≤ maxLen) (s2 : ByteArray) (hs2 : s2.size ≤ maxLen) (w : World) (hst : Std w) (hbulk : s0.data.toList.length + 1 + (s1.data.toList.length + 1 + (s2.data.toList.length + 1)) ≤ 1048576) :
    Calls Tryz.prog 11 #[.string s0, .string s1, .string s2] w (LawPost w) := by
  rw [size_list, size_list, size_list] at hbulk
  unfold maxLen at hs0 hs1 hs2
  have HS := Lib.hid hst
  have HSh := Lib.hid (shown_any w hst)
  have HW := Lib.hid (fun W => words_told s2 (by omega) W)
  have HM : Hid (∀ x ∈ wordsT s2.data.toList, WordB x ∧ x.length ≤ s2.size) := fun x hx => by rw [← size_list]; exact words_memT hx
  have HF : Hid (∀ W, s0.size ≤ 60 → s1.size ≤ 60 → s2.size ≤ 400 → Std W → Calls Tryz.prog 18 #[.string ⟨#[112, 97, 116, 115, 117, 98, 115, 116]⟩, .slice (some ⟨W.heap.size, 0, none⟩) 3 3] (W.alloc (.cells #[.string s0, .string s1, .string s2] 9)) fun e w' => e = .returned (.string (txt (if (joinT ((wordsT s2.data.toList).map (substL s0.data.toList s1.data.toList))).length ≤ 4000 then joinT ((wordsT s2.data.toList).map (substL s0.data.toList s1.data.toList)) else []))) ∧ Below W.heap.size W w') := fun W h0 h1 h2 hW => by
    have := of3_is ⟨#[112, 97, 116, 115, 117, 98, 115, 116]⟩ s0.data.toList s1.data.toList s2.data.toList _ (by rw [size_list]; omega) (by rw [size_list]; omega) (by rw [size_list]; omega) (call_pat s0.data.toList s1.data.toList s2.data.toList) W hW
    rw [txt_toList, txt_toList, txt_toList] at this
    exact this
  have H1 : Hid (∀ W x, WordB x → x.length ≤ 400 → s0.size ≤ 60 → s1.size ≤ 60 → Std W → Calls Tryz.prog 18 #[.string ⟨#[112, 97, 116, 115, 117, 98, 115, 116]⟩, .slice (some ⟨W.heap.size, 0, none⟩) 3 3] (W.alloc (.cells #[.string s0, .string s1, .string (txt x)] 9)) fun e w' => e = .returned (.string (txt (substL s0.data.toList s1.data.toList x))) ∧ Below W.heap.size W w') := fun W x hx hxl h0 h1 hW => by
    have := of3_is ⟨#[112, 97, 116, 115, 117, 98, 115, 116]⟩ s0.data.toList s1.data.toList x _ (by rw [size_list]; omega) (by rw [size_list]; omega) (by omega) (call_pat1 hx (by rw [size_list]; omega)) W hW
    rw [txt_toList, txt_toList] at this
    exact this
  have HL : Hid (∀ x, (substL s0.data.toList s1.data.toList x).length ≤ x.length + s1.size) := fun x => by rw [← size_list]; exact substL_len _ _ _
  clear hst hbulk
  generalize wordsT s2.data.toList = ws at HW HM HF
  generalize hG : substL s0.data.toList s1.data.toList = G at H1 HL HF
  clear hG
  go_enter Tryz.func11, Tryz.ntmps11
  go_wp2_with fail
  refine HSh.out.mono ?_
  rintro e w1 ⟨rfl, hb1⟩
  have HS1 := Lib.hid (HS.out.below hb1)
  go_wp2_with fail
  refine (HW.out w1).mono ?_
  rintro e w2 ⟨o, c, rfl, hc2, hb2⟩
  have hb12 : Below w.heap.size w w2 := hb1.trans (hb2.mono hb1.size)
  have HS2 := Lib.hid (HS1.out.below hb2)
  have HC := Lib.hid hc2
  clear HS1 HS HSh HW hb1 hb2 hc2
  by_cases a1 : 60 < s0.size
  · clear HM HF H1 HL HC HS2
    go_wp2_with fail
    go_ret
    exact ⟨rfl, hb12⟩
  by_cases a2 : 60 < s1.size
  · clear HM HF H1 HL HC HS2
    go_wp2_with fail
    go_ret
    exact ⟨rfl, hb12⟩
  by_cases a3 : 400 < s2.size
  · clear HM HF H1 HL HC HS2
    go_wp2_with fail
    go_ret
    exact ⟨rfl, hb12⟩
  obtain ⟨n, hn⟩ : ∃ n, n = ws.length := ⟨_, rfl⟩
  rw [← hn]
  by_cases a4 : 40 < n
  · clear HM HF H1 HL HC HS2 hn
    have a5 : (40 : Int) < (n : Int) := by omega
    go_wp2_with fail
    go_ret
    exact ⟨rfl, hb12⟩
  have z0 : s0.size ≤ 60 := by omega
  have z1 : s1.size ≤ 60 := by omega
  have z2 : s2.size ≤ 400 := by omega
  have hn40 : n ≤ 40 := by omega
  have y0 : ¬ (60 : Int) < (s0.size : Int) := by omega
  have y1 : ¬ (60 : Int) < (s1.size : Int) := by omega
  have y2 : ¬ (400 : Int) < (s2.size : Int) := by omega
  have y3 : ¬ (40 : Int) < (n : Int) := by omega
  have HN := Lib.hid hn
  have HB12 := Lib.hid hb12
  have hw2 : Below w2.heap.size w2 w2 := Below.refl _ _
  clear a1 a2 a3 a4 hs0 hs1 hs2 hn hb12
  go_wp2_with fail
  go_loopw [9, 10] (fun ov iv wr => ∃ (k : Nat), k ≤ n ∧ iv = .int .i64 k ∧ ov = .string (txt (joinT ((ws.take k).map G))) ∧ (joinT ((ws.take k).map G)).length ≤ k * 500 ∧ Below w2.heap.size w2 wr) (fun _ iv _ => n - (intOf iv).toNat)
  case atStart => exact ⟨0, Nat.zero_le _, rfl, rfl, by simp [joinT, Lib.join], hw2⟩
  case round =>
    obtain ⟨k, hk, rfl, rfl, hjl, hbr⟩ := hrel
    by_cases hkn : k < n
    · obtain ⟨x, hxk⟩ : ∃ x, ws[k]? = some x := ⟨ws[k]'(by rw [← HN.out]; exact hkn), List.getElem?_eq_getElem _⟩
      obtain ⟨b, f, rfl, hbl, hnc, hcell⟩ := (HC.out.below hbr) k x hxk
      rw [← HN.out] at hnc
      obtain ⟨hx, hxl⟩ := HM.out x (List.mem_of_getElem? hxk)
      have hgl := HL.out x
      have HOF := Lib.hid (H1.out wr x hx (by omega) z0 z1 (HS2.out.below hbr))
      have HJ : Hid (joinT ((ws.take (k + 1)).map G) = if k = 0 then G x else joinT ((ws.take k).map G) ++ [32] ++ G x) := by
        show _ = _
        have ht : ws.take (k + 1) = ws.take k ++ [x] := by rw [List.take_add_one, hxk]; rfl
        rw [ht, List.map_append, List.map_cons, List.map_nil, joinT_snoc]
        by_cases hk0 : k = 0
        · rw [if_pos hk0, if_pos (by rw [hk0]; rfl)]
        · rw [if_neg hk0, if_neg (fun h => by
            have h1 := congrArg List.length h
            rw [List.length_map, List.length_take, List.length_nil, ← HN.out] at h1
            omega)]
      obtain ⟨J, hJ⟩ : ∃ J, J = joinT ((ws.take k).map G) := ⟨_, rfl⟩
      rw [← hJ] at hjl HJ ⊢
      have HX := Lib.hid hx
      have HBR := Lib.hid hbr
      clear hJ hxk hx hbr
      have hkc : k < c := by omega
      have hk0' : (0 : Int) ≤ (k : Int) := by omega
      generalize G x = g at *
      by_cases hk0 : k = 0
      · have HJ2 : Hid (joinT ((ws.take (k + 1)).map G) = J ++ g) := by
          show _ = _
          have hJ0 : J = [] := List.eq_nil_of_length_eq_zero (by rw [hk0] at hjl; omega)
          rw [HJ.out, if_pos hk0, hJ0]; rfl
        have h0 : ¬ (0 : Int) < (k : Int) := by omega
        have hcat : ¬ 9223372036854775807 < (txt J).size + (txt g).size := by rw [txt_size, txt_size]; omega
        have hcat2 : ¬ 9223372036854775807 < J.length + g.length := by omega
        clear hk0 HJ
        go_wp2_with fail
        refine HOF.out.mono ?_
        rintro e w5 ⟨rfl, hb5⟩
        go_wp2_with fail
        go_roundw
        case rel => exact ⟨k + 1, hkn, by go_num, by rw [HJ2.out, ← txt_app], by rw [HJ2.out, List.length_append]; omega, HBR.out.trans (hb5.mono HBR.out.size)⟩
        case measure => simp [intOf]; omega
      · have HJ2 : Hid (joinT ((ws.take (k + 1)).map G) = J ++ [32] ++ g) := by
          show _ = _
          rw [HJ.out, if_neg hk0]
        have h0 : (0 : Int) < (k : Int) := by omega
        have hc1 : ¬ 9223372036854775807 < (txt J).size + 1 := by rw [txt_size]; omega
        have hc3 : ¬ 9223372036854775807 < J.length + 1 := by omega
        have hcat : ¬ 9223372036854775807 < (txt J).size + 1 + (txt g).size := by rw [txt_size, txt_size]; omega
        have hcat2 : ¬ 9223372036854775807 < J.length + 1 + g.length := by omega
        clear hk0 HJ
        go_wp2_with fail
        refine HOF.out.mono ?_
        rintro e w5 ⟨rfl, hb5⟩
        go_wp2_with fail
        go_roundw
        case rel => exact ⟨k + 1, hkn, by go_num, by rw [HJ2.out, ← txt_app, ← txt_app]; rfl, by rw [HJ2.out]; simp only [List.length_append, List.length_cons, List.length_nil]; omega, HBR.out.trans (hb5.mono HBR.out.size)⟩
        case measure => simp [intOf]; omega
    · obtain rfl : k = n := by omega
      have HT : Hid (ws.take k = ws) := List.take_of_length_le (by rw [← HN.out]; exact Nat.le_refl _)
      rw [HT.out] at hjl ⊢
      have HF2 := Lib.hid (HF.out wr z0 z1 z2 (HS2.out.below hbr))
      have HBR := Lib.hid hbr
      clear HF H1 HL HC HM HN hbr
      generalize joinT (ws.map G) = J at *
      have hsz : (txt J).size = J.length := txt_size J
      by_cases hJ : J.length ≤ 4000
      · rw [if_pos hJ] at HF2
        have hq := tq_t (rfl : J = J)
        go_wp2_with fail
        refine HF2.out.mono ?_
        rintro e w5 ⟨rfl, hb5⟩
        go_wp2_with fail
        go_ret
        exact ⟨rfl, HB12.out.trans ((HBR.out.trans (hb5.mono HBR.out.size)).mono HB12.out.size)⟩
      · rw [if_neg hJ] at HF2
        have hq : ((txt ([] : BT)).toList == (txt J).toList) = false := tq_f (fun h => by rw [← h] at hJ; simp at hJ)
        have hj4 : (4000 : Int) < (J.length : Int) := by omega
        have hj5 : 4000 < J.length := by omega
        go_wp2_with fail
        refine HF2.out.mono ?_
        rintro e w5 ⟨rfl, hb5⟩
        go_wp2_with fail
        go_ret
        exact ⟨rfl, HB12.out.trans ((HBR.out.trans (hb5.mono HBR.out.size)).mono HB12.out.size)⟩
end Go.Proofs.YtfdlcmjjnoapfaaGreatDoor
