/-
  What the document's own join of chapter 10 answer. For texts of at most ten thousand bytes. No condition.
-/
import Derived.Deep.QuietTactic
import Derived.BigQuiet
import Derived.WalkSpells
import Derived.Test.YtfdlcmjjnoapfaaGreatDoorLawSortsCW
import Derived.Test.YtfdlcmjjnoapfaaGreatDoorOB
namespace Go.Proofs.YtfdlcmjjnoapfaaGreatDoor
open Go.RowKit Go.Shelf
attribute [local go_sem] Oper.semAt_some

set_option maxRecDepth 100000 in
set_option maxHeartbeats 8000000 in
theorem join10_any (s t : ByteArray) (hs : s.size ≤ 10000) (ht : t.size ≤ 10000) (w : World) : Calls Tryz.prog 70 #[.string s, .string t] w (RowPost (zipT (wordsT s.data.toList) (wordsT t.data.toList)) w) := by
  have HW1 := Lib.hid (rwords_told s (by omega) w)
  have HW2 := Lib.hid (rwords_told t (by omega))
  have hl1 := words_few s.data.toList
  rw [size_list] at hl1
  have hl2 := words_few t.data.toList
  rw [size_list] at hl2
  have hz1 : Hid (∀ x ∈ wordsT s.data.toList, x.length ≤ 10000) := fun x hx => by have := (words_memT hx).2; rw [size_list] at this; omega
  have hz2 : Hid (∀ x ∈ wordsT t.data.toList, x.length ≤ 10000) := fun x hx => by have := (words_memT hx).2; rw [size_list] at this; omega
  generalize wordsT s.data.toList = xs at HW1 hl1 hz1 ⊢
  generalize wordsT t.data.toList = ys at HW2 hl2 hz2 ⊢
  obtain ⟨n, hn⟩ : ∃ n, n = xs.length := ⟨_, rfl⟩
  obtain ⟨m, hm⟩ : ∃ m, m = ys.length := ⟨_, rfl⟩
  rw [← hn] at HW1 hl1
  rw [← hm] at HW2 hl2
  have HN := Lib.hid hn
  have HM := Lib.hid hm
  clear hn hm
  go_enter Tryz.func70, Tryz.ntmps70
  go_wp2_with fail
  refine HW1.out.mono ?_
  rintro e w1 ⟨o1, c1, rfl, hc1, hb1⟩
  go_wp2_with fail
  refine (HW2.out w1).mono ?_
  rintro e w2 ⟨o2, c2, rfl, hc2, hb2⟩
  have HC1 := cells_later (hc1.below hb2) HN.out
  have HC2 := cells_later hc2 HM.out
  have HB := Lib.hid (hb1.trans (hb2.mono hb1.size))
  have h0 : Hid (RowS w2 w2 (.slice none 0 0) []) := RowS.start (Below.refl _ _)
  clear hc1 hc2 hb1 hb2 HW1 HW2
  go_wp2_with fail
  go_loopw [7, 8, 9] (fun ov iv _ wr => ∃ (k : Nat) (acc : List BT), k ≤ n + m ∧ iv = .int .i64 k ∧ acc ++ zipT (xs.drop k) (ys.drop k) = zipT xs ys ∧ acc.length ≤ k ∧ RowS w2 wr ov acc) (fun _ iv _ _ => n + m - (intOf iv).toNat)
  case atStart => exact ⟨0, [], Nat.zero_le _, rfl, rfl, Nat.le_refl _, h0.out⟩
  case round =>
    obtain ⟨k, acc, hk, rfl, hacc, hal, hR⟩ := hrel
    obtain ⟨oo, oc, rfl, hR⟩ := hR.slice
    have HA := Lib.hid hacc
    clear hacc
    by_cases ha : k < n
    · by_cases hb : k < m
      · have hnx : zipT (xs.drop k) (ys.drop k) = _ := zip_next (a := xs) (b := ys) (k := k) (by rw [← HN.out, ← HM.out]; omega)
        obtain ⟨x, hxk⟩ : ∃ x, xs[k]? = some x := ⟨xs[k]'(by rw [← HN.out]; exact ha), List.getElem?_eq_getElem _⟩
        obtain ⟨b1, f1, rfl, hnc1, x1⟩ := HC1.out wr hR.2 k x hxk
        have hkc1 : k < c1 := by omega
        have hka : (k : Int) < (n : Int) := by omega
        have hxl := hz1.out x (List.mem_of_getElem? hxk)
        obtain ⟨y, hyk⟩ : ∃ y, ys[k]? = some y := ⟨ys[k]'(by rw [← HM.out]; exact hb), List.getElem?_eq_getElem _⟩
        obtain ⟨b2, f2, rfl, hnc2, x2⟩ := HC2.out wr hR.2 k y hyk
        have hkc2 : k < c2 := by omega
        have hkb : (k : Int) < (m : Int) := by omega
        have hyl := hz2.out y (List.mem_of_getElem? hyk)
        rw [hxk, hyk] at hnx
        have HA2 : Hid ((acc ++ [x ++ y]) ++ zipT (xs.drop (k + 1)) (ys.drop (k + 1)) = zipT xs ys) := by
          show _ = _
          rw [← HA.out, hnx, List.append_assoc]; simp
        have hcat : (txt x ++ txt y).size ≤ 2000000 := by rw [ByteArray.size_append, txt_size, txt_size]; omega
        obtain ⟨po, pc, w3, hrun, hR3⟩ := hR.push (x ++ y) (by omega) 22
        rw [← txt_app] at hrun
        have HR3 := Lib.hid hR3
        clear hR3 hnx hxk hyk HA hR
        go_wp2_with (at_builtin; refine wpList_append_eq rfl _ _ 22 rfl _ _ _ w3 rfl rfl hrun ?_)
        go_roundw
        case rel => exact ⟨k + 1, _, by omega, by go_num, HA2.out, by simp; omega, HR3.out⟩
        case measure => simp [intOf]; omega
      · have hnx : zipT (xs.drop k) (ys.drop k) = _ := zip_next (a := xs) (b := ys) (k := k) (by rw [← HN.out, ← HM.out]; omega)
        obtain ⟨x, hxk⟩ : ∃ x, xs[k]? = some x := ⟨xs[k]'(by rw [← HN.out]; exact ha), List.getElem?_eq_getElem _⟩
        obtain ⟨b1, f1, rfl, hnc1, x1⟩ := HC1.out wr hR.2 k x hxk
        have hkc1 : k < c1 := by omega
        have hka : (k : Int) < (n : Int) := by omega
        have hxl := hz1.out x (List.mem_of_getElem? hxk)
        have hyk : ys[k]? = none := List.getElem?_eq_none (by rw [← HM.out]; omega)
        have hkb : ¬ (k : Int) < (m : Int) := by omega
        rw [hxk, hyk] at hnx
        have HA2 : Hid ((acc ++ [x]) ++ zipT (xs.drop (k + 1)) (ys.drop (k + 1)) = zipT xs ys) := by
          show _ = _
          rw [← HA.out, hnx, List.append_assoc]; simp
        obtain ⟨po, pc, w3, hrun, hR3⟩ := hR.push (x) (by omega) 22
        have HR3 := Lib.hid hR3
        clear hR3 hnx hxk hyk HA hR
        go_wp2_with (at_builtin; refine wpList_append_eq rfl _ _ 22 rfl _ _ _ w3 rfl rfl hrun ?_)
        go_roundw
        case rel => exact ⟨k + 1, _, by omega, by go_num, HA2.out, by simp; omega, HR3.out⟩
        case measure => simp [intOf]; omega
    · by_cases hb : k < m
      · have hnx : zipT (xs.drop k) (ys.drop k) = _ := zip_next (a := xs) (b := ys) (k := k) (by rw [← HN.out, ← HM.out]; omega)
        have hxk : xs[k]? = none := List.getElem?_eq_none (by rw [← HN.out]; omega)
        have hka : ¬ (k : Int) < (n : Int) := by omega
        obtain ⟨y, hyk⟩ : ∃ y, ys[k]? = some y := ⟨ys[k]'(by rw [← HM.out]; exact hb), List.getElem?_eq_getElem _⟩
        obtain ⟨b2, f2, rfl, hnc2, x2⟩ := HC2.out wr hR.2 k y hyk
        have hkc2 : k < c2 := by omega
        have hkb : (k : Int) < (m : Int) := by omega
        have hyl := hz2.out y (List.mem_of_getElem? hyk)
        rw [hxk, hyk] at hnx
        have HA2 : Hid ((acc ++ [y]) ++ zipT (xs.drop (k + 1)) (ys.drop (k + 1)) = zipT xs ys) := by
          show _ = _
          rw [← HA.out, hnx, List.append_assoc]; simp
        have hcat : ((⟨#[]⟩ : ByteArray) ++ txt y).size ≤ 2000000 := by rw [ByteArray.size_append, txt_size]; show 0 + _ ≤ _; omega
        have hemp : (⟨#[]⟩ : ByteArray) ++ txt y = txt y := by show txt [] ++ txt y = txt y; rw [txt_app]; rfl
        obtain ⟨po, pc, w3, hrun, hR3⟩ := hR.push (y) (by omega) 22
        have HR3 := Lib.hid hR3
        clear hR3 hnx hxk hyk HA hR
        go_wp2_with (at_builtin; refine wpList_append_eq rfl _ _ 22 rfl _ _ _ w3 rfl rfl hrun ?_)
        go_roundw
        case rel => exact ⟨k + 1, _, by omega, by go_num, HA2.out, by simp; omega, HR3.out⟩
        case measure => simp [intOf]; omega
      · have HE : Hid (RowPost (zipT xs ys) w (.returned (.slice oo acc.length oc)) wr) := by
          have e : acc = zipT xs ys := by
            rw [← HA.out, zip_done (by rw [← HN.out]; omega) (by rw [← HM.out]; omega), List.append_nil]
          rw [← e]
          exact hR.post HB.out
        have hka : ¬ (k : Int) < (n : Int) := by omega
        have hkb : ¬ (k : Int) < (m : Int) := by omega
        clear HA hR hal
        go_wp2_with fail
        go_ret
        exact HE.out
end Go.Proofs.YtfdlcmjjnoapfaaGreatDoor
