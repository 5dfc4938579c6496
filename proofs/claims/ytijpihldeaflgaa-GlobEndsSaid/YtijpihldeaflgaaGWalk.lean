/-
  What the functions Open, Right, Match, Fill and Subst of package glob answer, for every text up to the machine's bound; nothing that lay is turned.
-/
import Derived.Test.YtijpihldeaflgaaGBase
import Derived.Test.YtijpihldeaflgaaGShelf
namespace Go.Proofs.Ytijpihldeaflgaa
open Go.RowKit Go.Shelf

set_option maxHeartbeats 400000 in
theorem open_any (p : ByteArray) (w : World) : Calls Try.prog 15 #[.string p] w fun e w' => e = .returned (.bool (openB p.data.toList)) ∧ w' = w := by
  go_enter Try.func15, Try.ntmps15
  go_wp2_with (go_at_call 27; refine (strings_Count_one _ _ _).mono ?_; rintro e w' ⟨rfl, rfl⟩)
  go_ret
  exact ⟨ret_bool (nat_beq _ 1), rfl⟩
theorem open_t {p : ByteArray} (h : openB p.data.toList = true) (w : World) : Calls Try.prog 15 #[.string p] w fun e w' => e = .returned (.bool true) ∧ w' = w := by
  have := open_any p w; rwa [h] at this
theorem open_f {p : ByteArray} (h : openB p.data.toList = false) (w : World) : Calls Try.prog 15 #[.string p] w fun e w' => e = .returned (.bool false) ∧ w' = w := by
  have := open_any p w; rwa [h] at this

set_option maxHeartbeats 400000 in
theorem right_any (p : ByteArray) (w : World) : Calls Try.prog 13 #[.string p] w fun e w' => e = .returned (.bool (rightB p.data.toList)) ∧ w' = w := by
  cases he : p.toList.isEmpty with
  | true =>
    have HN : Hid (rightB p.data.toList = false) := by
      show _ = _
      rw [Lib.toList_data] at he
      simp [rightB, he]
    go_enter Try.func13, Try.ntmps13
    go_wp2_with (go_at_call 27; refine (strings_Count_one _ _ _).mono ?_; rintro e w' ⟨rfl, rfl⟩)
    go_ret
    exact ⟨ret_bool HN.out.symm, rfl⟩
  | false =>
    have HN : Hid (rightB p.data.toList = decide (Lib.countByte p.data.toList 37 ≤ 1)) := by
      show _ = _
      rw [Lib.toList_data] at he
      simp [rightB, he, Lib.countByte]
    go_enter Try.func13, Try.ntmps13
    go_wp2_with (go_at_call 27; refine (strings_Count_one _ _ _).mono ?_; rintro e w' ⟨rfl, rfl⟩)
    go_ret
    exact ⟨ret_bool (by rw [HN.out, Bool.eq_iff_iff]; simp; omega), rfl⟩
theorem right_t {p : ByteArray} (h : rightB p.data.toList = true) (w : World) : Calls Try.prog 13 #[.string p] w fun e w' => e = .returned (.bool true) ∧ w' = w := by
  have := right_any p w; rwa [h] at this
theorem right_f {p : ByteArray} (h : rightB p.data.toList = false) (w : World) : Calls Try.prog 13 #[.string p] w fun e w' => e = .returned (.bool false) ∧ w' = w := by
  have := right_any p w; rwa [h] at this

theorem index_open {p : ByteArray} (h : openB p.data.toList = true) : Lib.indexByte p.data.toList 37 = ((aheadL p.data.toList).length : Int) := by
  obtain ⟨h1, h2, _⟩ := open_split h
  have := index_cut (aheadL p.data.toList) (behindL p.data.toList) h2
  rwa [← h1] at this

theorem index_t {p : ByteArray} (h : openB p.data.toList = true) (w : World) : Calls Try.prog 37 #[.string p, .string ⟨#[37]⟩] w fun e w' => e = .returned (.int .i64 ((aheadL p.data.toList).length : Int)) ∧ w' = w := by
  have := stringslite_Index_one p 37 w; rwa [index_open h] at this

theorem ext_ahead {p : ByteArray} (h : openB p.data.toList = true) : p.extract 0 (aheadL p.data.toList).length = txt (aheadL p.data.toList) := by
  rw [extract_txt]; simp [(open_take h).1]
theorem ext_behind {p : ByteArray} (h : openB p.data.toList = true) : p.extract ((aheadL p.data.toList).length + 1) p.size = txt (behindL p.data.toList) := by
  rw [extract_txt, take_rest, (open_take h).2]

set_option maxRecDepth 100000 in
set_option maxHeartbeats 1000000 in
theorem cutlite_any (p : ByteArray) (hp : p.size ≤ maxLen) (h : openB p.data.toList = true) (w : World) :
    Calls Try.prog 30 #[.string p, .string ⟨#[37]⟩] w fun e w' => e = .returned (.tuple #[.string (txt (aheadL p.data.toList)), .string (txt (behindL p.data.toList)), .bool true]) ∧ ∃ n, w' = w.drewN n := by
  unfold maxLen at hp
  have hl := open_lens h
  rw [size_list] at hl
  have H := Lib.hid h
  have HI := Lib.hid (index_t h)
  have HA := Lib.hid (ext_ahead h)
  have HB := Lib.hid (ext_behind h)
  clear h
  generalize hn : (aheadL p.data.toList).length = n at hl HI HA HB
  have h1 : n ≤ p.size := by omega
  have h2 : n + 1 ≤ p.size := by omega
  clear hn hl
  go_enter Try.func30, Try.ntmps30
  go_wp2_with (go_at_call 37; refine (HI.out _).mono ?_; rintro e w' ⟨rfl, rfl⟩)
  go_quiet (fail)
  go_wp2
  go_ret3
  exact ⟨by rw [← HA.out, ← HB.out]; rfl, nq, rfl⟩

set_option maxRecDepth 100000 in
set_option maxHeartbeats 1000000 in
theorem cut_any (p : ByteArray) (hp : p.size ≤ maxLen) (h : openB p.data.toList = true) (w : World) :
    Calls Try.prog 23 #[.string p, .string ⟨#[37]⟩] w fun e w' => e = .returned (.tuple #[.string (txt (aheadL p.data.toList)), .string (txt (behindL p.data.toList)), .bool true]) ∧ ∃ n, w' = w.drewN n := by
  have HC := Lib.hid (cutlite_any p hp h)
  clear hp h
  go_enter Try.func23, Try.ntmps23
  go_wp2_with (go_at_call 30; refine (HC.out _).mono ?_; rintro e w' ⟨rfl, nd, rfl⟩)
  go_ret3
  exact ⟨rfl, nd, rfl⟩

def MatchPost (p s : List UInt8) (w : World) (e : Ending) (w' : World) : Prop := e = .returned (.tuple #[.string (txt (matchL p s).1), .bool (matchL p s).2]) ∧ ∃ n, w' = w.drewN n
theorem match_no {p s : List UInt8} {w w' : World} (h : matchL p s = ([], false)) (hw : ∃ n, w' = w.drewN n) : MatchPost p s w (.returned (.tuple #[.string ⟨#[]⟩, .bool false])) w' := by
  refine ⟨?_, hw⟩; rw [h]; rfl
theorem match_is {p s t : List UInt8} {b : Bool} {w w' : World} (h : matchL p s = (t, b)) (hw : ∃ n, w' = w.drewN n) : MatchPost p s w (.returned (.tuple #[.string ⟨t.toArray⟩, .bool b])) w' := by
  refine ⟨?_, hw⟩; rw [h]; rfl

set_option maxRecDepth 100000 in
set_option maxHeartbeats 1000000 in
theorem match_shut_any (p s : ByteArray) (h : openB p.data.toList = false) (w : World) : Calls Try.prog 11 #[.string p, .string s] w (MatchPost p.data.toList s.data.toList w) := by
  have HO := Lib.hid (open_f h)
  cases hr : rightB p.data.toList with
  | false =>
    have HR := Lib.hid (right_f hr)
    have HM : Hid (matchL p.data.toList s.data.toList = ([], false)) := by show _ = _; rw [match_shut h, hr]; rfl
    clear h hr
    go_enter Try.func11, Try.ntmps11
    go_wp2_with (first | (go_at_call 15; refine (HO.out _).mono ?_; rintro e w' ⟨rfl, rfl⟩) | (go_at_call 13; refine (HR.out _).mono ?_; rintro e w' ⟨rfl, rfl⟩))
    go_ret2
    exact match_no HM.out ⟨0, rfl⟩
  | true =>
    have HR := Lib.hid (right_t hr)
    have HM : Hid (matchL p.data.toList s.data.toList = ([], s.toList == p.toList)) := by show _ = _; rw [match_shut h, hr, Lib.toList_data, Lib.toList_data]; rfl
    clear h hr
    go_enter Try.func11, Try.ntmps11
    go_wp2_with (first | (go_at_call 15; refine (HO.out _).mono ?_; rintro e w' ⟨rfl, rfl⟩) | (go_at_call 13; refine (HR.out _).mono ?_; rintro e w' ⟨rfl, rfl⟩))
    go_ret2
    exact match_is HM.out ⟨0, rfl⟩

theorem cutp_t {s p : ByteArray} (h : Lib.hasPrefix s.data.toList p.data.toList = true) (w : World) : Calls Try.prog 24 #[.string s, .string p] w fun e w' => e = .returned (.tuple #[.string (txt (s.data.toList.drop p.data.toList.length)), .bool true]) ∧ w' = w := by
  have := strings_CutPrefix s p w; unfold Lib.trimPrefix at this; rw [h] at this; exact this
theorem cutp_f {s p : ByteArray} (h : Lib.hasPrefix s.data.toList p.data.toList = false) (w : World) : Calls Try.prog 24 #[.string s, .string p] w fun e w' => e = .returned (.tuple #[.string s, .bool false]) ∧ w' = w := by
  have := strings_CutPrefix s p w; unfold Lib.trimPrefix at this; rw [h] at this; exact this
theorem cuts_t {s p : ByteArray} (hs : s.size ≤ maxLen) (h : Lib.hasSuffix s.data.toList p.data.toList = true) (w : World) : Calls Try.prog 25 #[.string s, .string p] w fun e w' => e = .returned (.tuple #[.string (txt (s.data.toList.take (s.data.toList.length - p.data.toList.length))), .bool true]) ∧ w' = w := by
  have := strings_CutSuffix s p w (by unfold maxLen at hs; omega); unfold Lib.trimSuffix at this; rw [h] at this; exact this
theorem cuts_f {s p : ByteArray} (hs : s.size ≤ maxLen) (h : Lib.hasSuffix s.data.toList p.data.toList = false) (w : World) : Calls Try.prog 25 #[.string s, .string p] w fun e w' => e = .returned (.tuple #[.string s, .bool false]) ∧ w' = w := by
  have := strings_CutSuffix s p w (by unfold maxLen at hs; omega); unfold Lib.trimSuffix at this; rw [h] at this; exact this

set_option maxRecDepth 100000 in
set_option maxHeartbeats 1000000 in
theorem match_open_any (p s : ByteArray) (hp : p.size ≤ maxLen) (hs : s.size ≤ maxLen) (h : openB p.data.toList = true) (w : World) : Calls Try.prog 11 #[.string p, .string s] w (MatchPost p.data.toList s.data.toList w) := by
  have HO := Lib.hid (open_t h)
  have HC := Lib.hid (cut_any p hp h)
  have hsl := size_list s
  cases h1 : Lib.hasPrefix s.data.toList (aheadL p.data.toList) with
  | false =>
    have HP := Lib.hid (cutp_f (s := s) (p := txt (aheadL p.data.toList)) (by rw [txt_data]; exact h1))
    have HM : Hid (matchL p.data.toList s.data.toList = ([], false)) := by show _ = _; unfold matchL; rw [if_pos h, if_neg (by simp [h1])]
    clear h h1 hp hs hsl
    go_enter Try.func11, Try.ntmps11
    go_wp2_with (first | (go_at_call 15; refine (HO.out _).mono ?_; rintro e w' ⟨rfl, rfl⟩) | (go_at_call 23; refine (HC.out _).mono ?_; rintro e w' ⟨rfl, nd, rfl⟩) | (go_at_call 24; refine (HP.out _).mono ?_; rintro e w' ⟨rfl, rfl⟩))
    go_ret2
    exact match_no HM.out ⟨_, rfl⟩
  | true =>
    have HP := Lib.hid (cutp_t (s := s) (p := txt (aheadL p.data.toList)) (by rw [txt_data]; exact h1))
    cases h2 : Lib.hasSuffix (s.data.toList.drop (aheadL p.data.toList).length) (behindL p.data.toList) with
    | false =>
      have HS := Lib.hid (cuts_f (s := txt (s.data.toList.drop (txt (aheadL p.data.toList)).data.toList.length)) (p := txt (behindL p.data.toList)) (by rw [txt_size]; simp only [List.length_drop]; omega) (by simp only [txt_data]; exact h2))
      have HM : Hid (matchL p.data.toList s.data.toList = ([], false)) := by show _ = _; unfold matchL; rw [if_pos h, if_pos h1, if_neg (by simp [h2])]
      clear h h1 h2 hp hs hsl
      go_enter Try.func11, Try.ntmps11
      go_wp2_with (first | (go_at_call 15; refine (HO.out _).mono ?_; rintro e w' ⟨rfl, rfl⟩) | (go_at_call 23; refine (HC.out _).mono ?_; rintro e w' ⟨rfl, nd, rfl⟩) | (go_at_call 24; refine (HP.out _).mono ?_; rintro e w' ⟨rfl, rfl⟩) | (go_at_call 25; refine (HS.out _).mono ?_; rintro e w' ⟨rfl, rfl⟩))
      go_ret2
      exact match_no HM.out ⟨_, rfl⟩
    | true =>
      have HS := Lib.hid (cuts_t (s := txt (s.data.toList.drop (txt (aheadL p.data.toList)).data.toList.length)) (p := txt (behindL p.data.toList)) (by rw [txt_size]; simp only [List.length_drop]; omega) (by simp only [txt_data]; exact h2))
      have HM : Hid (matchL p.data.toList s.data.toList = (List.take (s.size - (aheadL p.data.toList).length - (behindL p.data.toList).length) (List.drop (aheadL p.data.toList).length s.data.toList), true)) := by show _ = _; unfold matchL; rw [if_pos h, if_pos h1, if_pos h2, List.length_drop, hsl]
      clear h h1 h2 hp hs hsl
      go_enter Try.func11, Try.ntmps11
      go_wp2_with (first | (go_at_call 15; refine (HO.out _).mono ?_; rintro e w' ⟨rfl, rfl⟩) | (go_at_call 23; refine (HC.out _).mono ?_; rintro e w' ⟨rfl, nd, rfl⟩) | (go_at_call 24; refine (HP.out _).mono ?_; rintro e w' ⟨rfl, rfl⟩) | (go_at_call 25; refine (HS.out _).mono ?_; rintro e w' ⟨rfl, rfl⟩))
      go_ret2
      exact match_is HM.out ⟨_, rfl⟩

theorem match_any (p s : ByteArray) (hp : p.size ≤ maxLen) (hs : s.size ≤ maxLen) (w : World) : Calls Try.prog 11 #[.string p, .string s] w (MatchPost p.data.toList s.data.toList w) := by
  cases h : openB p.data.toList with
  | false => exact match_shut_any p s h w
  | true => exact match_open_any p s hp hs h w

def FillPost (t : List UInt8) (w : World) (e : Ending) (w' : World) : Prop := e = .returned (.string (txt t)) ∧ ∃ n, w' = w.drewN n

set_option maxRecDepth 100000 in
set_option maxHeartbeats 1000000 in
theorem fill_any (p s : ByteArray) (hp : p.size ≤ 1000000000000) (hs : s.size ≤ 1000000000000) (w : World) : Calls Try.prog 19 #[.string p, .string s] w (FillPost (fillL p.data.toList s.data.toList) w) := by
  cases h : openB p.data.toList with
  | false =>
    have HO := Lib.hid (open_f h)
    have HF : Hid (txt (fillL p.data.toList s.data.toList) = p) := by show _ = _; rw [fill_shut h, txt_toList]
    clear h hp hs
    go_enter Try.func19, Try.ntmps19
    go_wp2_with (go_at_call 15; refine (HO.out _).mono ?_; rintro e w' ⟨rfl, rfl⟩)
    go_ret
    exact ⟨by rw [HF.out]; rfl, 0, rfl⟩
  | true =>
    have HO := Lib.hid (open_t h)
    have HC := Lib.hid (cut_any p (by unfold maxLen; omega) h)
    have hl := open_lens h
    rw [size_list] at hl
    have HF : Hid (txt (fillL p.data.toList s.data.toList) = txt (aheadL p.data.toList) ++ s ++ txt (behindL p.data.toList)) := by
      show _ = _
      rw [fill_open h, ← txt_append, ← txt_append, txt_toList]
    have hz1 : (txt (aheadL p.data.toList)).size ≤ p.size := by rw [txt_size]; omega
    have hz2 : (txt (behindL p.data.toList)).size ≤ p.size := by rw [txt_size]; omega
    clear h hl
    generalize txt (aheadL p.data.toList) = a at HC HF hz1
    generalize txt (behindL p.data.toList) = b at HC HF hz2
    have g1 : ¬ 9223372036854775807 < a.size + s.size := by omega
    have g2 : ¬ 9223372036854775807 < a.size + s.size + b.size := by omega
    have g3 : (a ++ s).size = a.size + s.size := ByteArray.size_append ..
    clear hp hs hz1 hz2
    go_enter Try.func19, Try.ntmps19
    go_wp2_with (first | (go_at_call 15; refine (HO.out _).mono ?_; rintro e w' ⟨rfl, rfl⟩) | (go_at_call 23; refine (HC.out _).mono ?_; rintro e w' ⟨rfl, nd, rfl⟩))
    go_ret
    exact ⟨by rw [HF.out]; rfl, nd, rfl⟩

set_option maxRecDepth 100000 in
set_option maxHeartbeats 1000000 in
theorem subst_any (p q s : ByteArray) (hp : p.size ≤ 1000000000000) (hq : q.size ≤ 1000000000000) (hs : s.size ≤ 1000000000000) (w : World) : Calls Try.prog 21 #[.string p, .string q, .string s] w (FillPost (substL p.data.toList q.data.toList s.data.toList) w) := by
  have hm := match_any p s (by unfold maxLen; omega) (by unfold maxLen; omega)
  have hml := match_len p.data.toList s.data.toList
  rw [size_list] at hml
  unfold MatchPost at hm
  cases h : (matchL p.data.toList s.data.toList).2 with
  | false =>
    rw [h] at hm
    have HM := Lib.hid hm
    have HF : Hid (txt (substL p.data.toList q.data.toList s.data.toList) = s) := by show _ = _; rw [subst_miss h, txt_toList]
    clear h hp hs hm hml
    go_enter Try.func21, Try.ntmps21
    go_wp2_with (go_at_call 11; refine (HM.out _).mono ?_; rintro e w' ⟨rfl, nd, rfl⟩)
    go_ret
    exact ⟨by rw [HF.out]; rfl, nd, rfl⟩
  | true =>
    rw [h] at hm
    have HM := Lib.hid hm
    have hf := fill_any q (txt (matchL p.data.toList s.data.toList).1) hq (by rw [txt_size]; omega)
    rw [txt_data, ← subst_hit h] at hf
    have HF := Lib.hid hf
    clear h hp hs hm hml hf
    go_enter Try.func21, Try.ntmps21
    go_wp2_with (first | (go_at_call 11; refine (HM.out _).mono ?_; rintro e w' ⟨rfl, nd, rfl⟩) | (go_at_call 19; refine (HF.out _).mono ?_; rintro e w' ⟨rfl, nf, rfl⟩))
    go_ret
    exact ⟨rfl, _, rfl⟩

end Go.Proofs.Ytijpihldeaflgaa
