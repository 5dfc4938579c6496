/-
  What the document's own Path answers, for every text: the same as the program's.
-/
import Derived.Test.YtginlknlkbhgaaaLRefPlain
import Derived.Test.YtginlknlkbhgaaaFPath
namespace Go.Proofs.Ytginlknlkbhgaaa
open Go.RowKit Go.Shelf

def partL (p : List UInt8) : Bool := !(p == [] || p == [46] || p == [46, 46])
theorem pathB_eq (l : List UInt8) : pathB l = (decide (l.length ≤ 100) && allB plainB l && (pieces slashB l).all partL && decide ((pieces slashB l).length ≤ 8)) := by
  unfold pathB
  rw [List.all_map]
  congr 3
  funext p
  simp [partB, partL, txt_toL]
theorem take_more (l : List UInt8) (a m : Nat) (ham : a ≤ m) (hm : m < l.length) : (l.drop a).take (m + 1 - a) = (l.drop a).take (m - a) ++ [l[m]] := by
  rw [show m + 1 - a = (m - a) + 1 by omega, List.take_succ_eq_append_getElem (by simp; omega)]
  simp [show a + (m - a) = m by omega]
/-- Where the document's loop stands: ahead of byte m, the part that begins at a is under way; or behind the last part. -/
def RefAt (l : List UInt8) (m : Nat) (P : Nat) (part : ByteArray) : Prop :=
  (∃ (a : Nat) (pre : List (List UInt8)), a ≤ m ∧ m ≤ l.length ∧ (∀ c ∈ (l.drop a).take (m - a), slashB c = false) ∧ part = txt ((l.drop a).take (m - a)) ∧ pieces slashB l = pre ++ pieces slashB (l.drop a) ∧ pre.length = P ∧ pre.all partL = true ∧ allB plainB (l.take m) = true) ∨
  (m = l.length + 1 ∧ P = (pieces slashB l).length ∧ (pieces slashB l).all partL = true ∧ allB plainB l = true)
theorem partL_txt (p : List UInt8) : partB (txt p) = partL p := by simp [partB, partL, txt_toL]
theorem refAt_start (l : List UInt8) : RefAt l 0 0 (txt []) := .inl ⟨0, [], Nat.le_refl _, Nat.zero_le _, by simp, by simp, by simp, rfl, rfl, by simp [allB]⟩
theorem refAt_len {l : List UInt8} {m P : Nat} {part : ByteArray} (h : RefAt l m P part) : m ≤ l.length + 1 ∧ P ≤ l.length + 1 ∧ part.size ≤ l.length ∨ m = l.length + 1 ∧ P ≤ l.length + 1 := by
  have hp := pieces_len slashB l
  rcases h with ⟨a, pre, h1, h2, _, h4, h5, h6, _, _⟩ | ⟨h1, h2, _⟩
  · left
    refine ⟨by omega, ?_, ?_⟩
    · have := congrArg List.length h5
      rw [List.length_append] at this
      omega
    · rw [h4, txt_size]; simp; omega
  · right; exact ⟨h1, by omega⟩
theorem refAt_unplain {l : List UInt8} {m : Nat} (hm : m < l.length) (hc : plainB l[m] = false) : pathB l = false := by
  have : allB plainB l = false := all_not hm hc
  simp [pathB, this]
theorem refAt_more {l : List UInt8} {m P : Nat} {part : ByteArray} (h : RefAt l m P part) (hm : m < l.length) (hc : plainB l[m] = true) (hs : slashB l[m] = false) : RefAt l (m + 1) P (part ++ txt [l[m]]) := by
  rcases h with ⟨a, pre, h1, h2, h3, h4, h5, h6, h7, h8⟩ | ⟨h1, _⟩
  · refine .inl ⟨a, pre, by omega, hm, none_next slashB l a m h1 hm h3 hs, ?_, h5, h6, h7, all_take h8 hm hc⟩
    rw [h4, txt_append, take_more l a m h1 hm]
  · omega
theorem refAt_cut {l : List UInt8} {m P : Nat} {part : ByteArray} (h : RefAt l m P part) (hm : m < l.length) (hc : plainB l[m] = true) (hs : slashB l[m] = true) (hp : partB part = true) : RefAt l (m + 1) (P + 1) (txt []) := by
  rcases h with ⟨a, pre, h1, h2, h3, h4, h5, h6, h7, h8⟩ | ⟨h1, _⟩
  · refine .inl ⟨m + 1, pre ++ [(l.drop a).take (m - a)], Nat.le_refl _, hm, by simp, by simp, ?_, by simp [h6], ?_, all_take h8 hm hc⟩
    · rw [h5, cut_at slashB l a m h1 hm h3 hs]; simp
    · rw [h4, partL_txt] at hp
      rw [List.all_append, h7]; simp [hp]
  · omega
theorem refAt_last {l : List UInt8} {P : Nat} {part : ByteArray} (h : RefAt l l.length P part) (hp : partB part = true) : RefAt l (l.length + 1) (P + 1) (txt []) := by
  rcases h with ⟨a, pre, h1, h2, h3, h4, h5, h6, h7, h8⟩ | ⟨h1, _⟩
  · have ht : (l.drop a).take (l.length - a) = l.drop a := List.take_of_length_le (by rw [List.length_drop]; exact Nat.le_refl _)
    rw [ht] at h3 h4
    rw [pieces_none slashB _ h3] at h5
    rw [h4, partL_txt] at hp
    rw [List.take_length] at h8
    exact .inr ⟨rfl, by rw [h5]; simp [h6], by rw [h5, List.all_append, h7]; simp [hp], h8⟩
  · omega
theorem refAt_bad {l : List UInt8} {m P : Nat} {part : ByteArray} (h : RefAt l m P part) (hm : m = l.length ∨ ∃ hlt : m < l.length, slashB l[m] = true) (hp : partB part = false) : pathB l = false := by
  rcases h with ⟨a, pre, h1, h2, h3, h4, h5, h6, h7, h8⟩ | ⟨h1, _⟩
  · rw [h4, partL_txt] at hp
    have hbad : (pieces slashB l).all partL = false := by
      rcases hm with rfl | ⟨hlt, hs⟩
      · have ht : (l.drop a).take (l.length - a) = l.drop a := List.take_of_length_le (by rw [List.length_drop]; exact Nat.le_refl _)
        rw [ht] at h3 hp
        rw [h5, pieces_none slashB _ h3, List.all_append]; simp [hp]
      · rw [h5, cut_at slashB l a m h1 hlt h3 hs, List.all_append]; simp [hp]
    rw [pathB_eq, hbad]; simp
  · rcases hm with hm | ⟨hlt, _⟩ <;> omega
theorem refAt_end {l : List UInt8} {P : Nat} {part : ByteArray} (h : RefAt l (l.length + 1) P part) (hl : l.length ≤ 100) : pathB l = decide (P ≤ 8) := by
  rcases h with ⟨a, pre, h1, h2, _⟩ | ⟨h1, h2, h3, h4⟩
  · omega
  · rw [pathB_eq, h3, h4, h2]; simp [hl]
def PathPost (s : ByteArray) (w : World) (e : Ending) (w' : World) : Prop := e = .returned (.bool (pathB s.data.toList)) ∧ w = w'
theorem path_no {s : ByteArray} {w : World} (h : pathB s.data.toList = false) : PathPost s w (.returned (.bool false)) w := ⟨by rw [h], rfl⟩
set_option maxRecDepth 100000 in
set_option maxHeartbeats 2000000 in
theorem refPath_short (s : ByteArray) (h : s.size < 1 ∨ 100 < s.size) (w : World) : Calls Try.prog 57 #[.string s] w (PathPost s w) := by
  have hsl := size_list s
  have HN := Lib.hid (path_no (s := s) (w := w) (by
    rcases h with h | h
    · have : s.data.toList = [] := List.eq_nil_of_length_eq_zero (by omega)
      rw [this, pathB_eq]; decide
    · unfold pathB; rw [hsl]; simp; omega))
  clear hsl
  rcases h with h | h
  · have e1 : decide ((s.size : Int) < 1) = true := by simp; omega
    go_enter Try.func57, Try.ntmps57
    go_wp2
    go_ret
    exact HN.out
  · have e1 : decide ((s.size : Int) < 1) = false := by simp; omega
    have e2 : decide (100 < (s.size : Int)) = true := by simp; omega
    go_enter Try.func57, Try.ntmps57
    go_wp2
    go_ret
    exact HN.out
set_option maxRecDepth 100000 in
set_option maxHeartbeats 2000000 in
theorem refPath_loop (s : ByteArray) (h1 : 1 ≤ s.size) (h2 : s.size ≤ 100) (w : World) : Calls Try.prog 57 #[.string s] w (PathPost s w) := by
  have HS := Lib.hid (size_list s)
  have e1 : decide ((s.size : Int) < 1) = false := by simp; omega
  have e2 : decide (100 < (s.size : Int)) = false := by simp; omega
  go_enter Try.func57, Try.ntmps57
  go_wp2
  go_loop [3, 4, 5] (fun p t i => ∃ (m P : Nat) (part : ByteArray), i = .int .i64 m ∧ p = .int .i64 P ∧ t = .string part ∧ RefAt s.data.toList m P part ∧ (m ≤ s.size + 1 ∧ P ≤ 101)) (fun _ _ i => s.size + 1 - (intOf i).toNat)
  case atStart =>
    exact ⟨0, 0, txt [], rfl, rfl, rfl, refAt_start _, by omega, by omega⟩
  case round =>
    obtain ⟨m, P, part, rfl, rfl, rfl, hat, hm1, hP⟩ := hrel
    have HA := Lib.hid hat; clear hat
    by_cases hlt : m < s.size
    · have hlt' : m < s.data.toList.length := by rw [Array.length_toList]; exact hlt
      have hgk : s.data.toList[m] = s[m] := by rw [Array.getElem_toList]; rfl
      cases hp : plainB s[m] with
      | false =>
        have HN := Lib.hid (path_no (s := s) (w := w) (refAt_unplain hlt' (by rw [hgk]; exact hp)))
        have HP := Lib.hid hp; clear hp hgk
        go_wp2_with (go_at_call 71; refine (refPlain_f _ _ HP.out).mono ?_; rintro e w' ⟨rfl, rfl⟩)
        go_ret
        exact HN.out
      | true =>
        have HP := Lib.hid hp
        by_cases hsl : s[m].toNat = 47
        · have e3 : ((s[m].toNat : Int) != 47) = false := by simp; omega
          have hcut : slashB s.data.toList[m] = true := by rw [hgk]; simp [slashB, hsl]
          have hpl : plainB s.data.toList[m] = true := by rw [hgk]; exact hp
          clear hp hsl hgk
          cases hq : partB part with
          | false =>
            have HN := Lib.hid (path_no (s := s) (w := w) (refAt_bad HA.out (.inr ⟨hlt', hcut⟩) hq))
            by_cases g1 : part.toList = []
            · clear hq
              go_wp2_with (go_at_call 71; refine (refPlain_t _ _ HP.out).mono ?_; rintro e w' ⟨rfl, rfl⟩)
              go_ret
              exact HN.out
            have f1 : part.toList.isEmpty = false := by simpa using g1
            by_cases g2 : part.toList = [46]
            · have f2 : (part.toList == [46]) = true := by simp [g2]
              clear hq g1 g2
              go_wp2_with (go_at_call 71; refine (refPlain_t _ _ HP.out).mono ?_; rintro e w' ⟨rfl, rfl⟩)
              go_ret
              exact HN.out
            have f2 : (part.toList == [46]) = false := by simpa using g2
            have f3 : (part.toList == [46, 46]) = true := by simpa [partB, g1, g2] using hq
            clear hq g1 g2
            go_wp2_with (go_at_call 71; refine (refPlain_t _ _ HP.out).mono ?_; rintro e w' ⟨rfl, rfl⟩)
            go_ret
            exact HN.out
          | true =>
            have g : part.toList.isEmpty = false ∧ (part.toList == [46]) = false ∧ (part.toList == [46, 46]) = false := by
              simp only [partB, Bool.not_eq_true', Bool.or_eq_false_iff] at hq
              exact ⟨by simpa using hq.1.1, hq.1.2, hq.2⟩
            obtain ⟨f1, f2, f3⟩ := g
            have hN := refAt_cut HA.out hlt' hpl hcut hq
            have hb := refAt_len hN
            rw [HS.out] at hb
            have hb2 : m + 1 ≤ s.size + 1 ∧ P + 1 ≤ 101 := by omega
            have HN := Lib.hid hN
            clear hq hN hb
            go_wp2_with (go_at_call 71; refine (refPlain_t _ _ HP.out).mono ?_; rintro e w' ⟨rfl, rfl⟩)
            go_round
            case rel => exact ⟨m + 1, P + 1, ⟨#[]⟩, by go_num, by go_num, rfl, HN.out, hb2⟩
            case measure => simp [intOf]; omega
        · have e3 : ((s[m].toNat : Int) != 47) = true := by simp; omega
          have hN := refAt_more HA.out hlt' (by rw [hgk]; exact hp) (by rw [hgk]; simp [slashB, hsl])
          have hb := refAt_len hN
          rw [HS.out] at hb
          have hb2 : m + 1 ≤ s.size + 1 ∧ P ≤ 101 := by omega
          have hb0 := refAt_len HA.out
          rw [HS.out] at hb0
          have hcat : ¬ 9223372036854775807 < part.size + (min (m + 1) s.size - m) := by omega
          rw [hgk, ← extract_one s m hlt] at hN
          have HN := Lib.hid hN
          clear hp hsl hgk hN hb hb0
          go_wp2_with (go_at_call 71; refine (refPlain_t _ _ HP.out).mono ?_; rintro e w' ⟨rfl, rfl⟩)
          go_round
          case rel => exact ⟨m + 1, P, _, by go_num, rfl, rfl, HN.out, hb2⟩
          case measure => simp [intOf]; omega
    · by_cases hend : m = s.size
      · subst hend
        rw [← HS.out] at HA
        cases hq : partB part with
        | false =>
          have HN := Lib.hid (path_no (s := s) (w := w) (refAt_bad HA.out (.inl rfl) hq))
          by_cases g1 : part.toList = []
          · clear hq
            go_wp2
            go_ret
            exact HN.out
          have f1 : part.toList.isEmpty = false := by simpa using g1
          by_cases g2 : part.toList = [46]
          · have f2 : (part.toList == [46]) = true := by simp [g2]
            clear hq g1 g2
            go_wp2
            go_ret
            exact HN.out
          have f2 : (part.toList == [46]) = false := by simpa using g2
          have f3 : (part.toList == [46, 46]) = true := by simpa [partB, g1, g2] using hq
          clear hq g1 g2
          go_wp2
          go_ret
          exact HN.out
        | true =>
          have g : part.toList.isEmpty = false ∧ (part.toList == [46]) = false ∧ (part.toList == [46, 46]) = false := by
            simp only [partB, Bool.not_eq_true', Bool.or_eq_false_iff] at hq
            exact ⟨by simpa using hq.1.1, hq.1.2, hq.2⟩
          obtain ⟨f1, f2, f3⟩ := g
          have hN := by have := refAt_last HA.out hq; rwa [HS.out] at this
          have hb := refAt_len hN
          rw [HS.out] at hb
          have hb2 : s.size + 1 ≤ s.size + 1 ∧ P + 1 ≤ 101 := by omega
          have HN := Lib.hid hN
          clear hq hN hb
          go_wp2
          go_round
          case rel => exact ⟨s.size + 1, P + 1, ⟨#[]⟩, by go_num, by go_num, rfl, HN.out, hb2⟩
          case measure => simp [intOf]
      · obtain rfl : m = s.size + 1 := by omega
        have hE := refAt_end (l := s.data.toList) (P := P) (part := part) (by rw [HS.out]; exact HA.out) (by rw [HS.out]; omega)
        have HE := Lib.hid hE
        clear hE
        go_wp2
        go_ret
        exact ⟨ret_bool (by rw [HE.out]; simp; omega), rfl⟩
theorem refPath_any (s : ByteArray) (w : World) : Calls Try.prog 57 #[.string s] w fun e w' => e = .returned (.bool (pathB s.data.toList)) ∧ w = w' := by
  by_cases h : 1 ≤ s.size ∧ s.size ≤ 100
  · exact refPath_loop s h.1 h.2 w
  · exact refPath_short s (by omega) w

end Go.Proofs.Ytginlknlkbhgaaa
