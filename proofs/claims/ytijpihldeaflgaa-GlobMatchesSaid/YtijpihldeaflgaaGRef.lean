/-
  What the document's own answers (marks, Right, Open, Fill, Match, Subst, Any) are, for every text up to a size: the same as the program's.
-/
import Derived.Test.YtijpihldeaflgaaGAny
namespace Go.Proofs.Ytijpihldeaflgaa
open Go.RowKit Go.Shelf

/-- How many signs there are among the first k bytes, and where the last one is (said only where there is one alone). -/
def MarkAt (l : List UInt8) (k n : Nat) (at' : Int) : Prop := n = (l.take k).count 37 ∧ (n = 1 → at' = ((aheadL (l.take k)).length : Int)) ∧ -1 ≤ at' ∧ at' < 9223372036854775807
theorem mark_start (l : List UInt8) : MarkAt l 0 0 (-1) := ⟨by simp, by simp, by omega, by omega⟩
theorem mark_le {l : List UInt8} {k n : Nat} {a : Int} (h : MarkAt l k n a) : n ≤ k := by
  rw [h.1]
  have h1 := List.count_le_length (a := (37 : UInt8)) (l := l.take k)
  rw [List.length_take] at h1
  omega
theorem mark_skip {l : List UInt8} {k n : Nat} {a : Int} (h : MarkAt l k n a) (hk : k < l.length) (hc : l[k] ≠ 37) : MarkAt l (k + 1) n a := by
  obtain ⟨h1, h2, h3⟩ := h
  rw [MarkAt, List.take_succ_eq_append_getElem hk]
  refine ⟨?_, fun hn => ?_, h3⟩
  · rw [List.count_append, ← h1, List.count_cons_of_ne hc]; simp
  · have hm : (37 : UInt8) ∈ l.take k := by rw [← List.count_pos_iff]; omega
    rw [ahead_more _ hm]
    exact h2 hn
theorem mark_hit {l : List UInt8} {k n : Nat} {a : Int} (h : MarkAt l k n a) (hk : k < l.length) (hc : l[k] = 37) (hb : k < 9223372036854775807) : MarkAt l (k + 1) (n + 1) k := by
  obtain ⟨h1, h2, h3⟩ := h
  rw [MarkAt, List.take_succ_eq_append_getElem hk, hc]
  refine ⟨?_, fun hn => ?_, by omega, by omega⟩
  · rw [List.count_append, ← h1]; simp
  · have hm : (37 : UInt8) ∉ l.take k := by rw [← List.count_eq_zero]; omega
    rw [ahead_cut _ [] hm, List.length_take]
    omega

/-- How many signs a text has. -/
def cntL (l : List UInt8) : Nat := l.count 37

def MarksPost (p : ByteArray) (w : World) (e : Ending) (w' : World) : Prop := ∃ a : Int, e = .returned (.tuple #[.int .i64 (cntL p.data.toList : Nat), .int .i64 a]) ∧ (openB p.data.toList = true → a = ((aheadL p.data.toList).length : Int)) ∧ (-1 ≤ a ∧ a < 9223372036854775807) ∧ w' = w

set_option maxRecDepth 100000 in
set_option maxHeartbeats 2000000 in
theorem marks_any (p : ByteArray) (hp : p.size ≤ maxLen) (w : World) : Calls Try.prog 26 #[.string p] w (MarksPost p w) := by
  unfold maxLen at hp
  go_enter Try.func26, Try.ntmps26
  go_wp2
  go_loop [4, 5, 6] (fun n a i => ∃ (k m : Nat) (at' : Int), k ≤ p.size ∧ m ≤ k ∧ i = .int .i64 k ∧ n = .int .i64 m ∧ a = .int .i64 at' ∧ Hid (MarkAt p.data.toList k m at')) (fun _ _ i => p.size - (intOf i).toNat)
  case atStart => exact ⟨0, 0, -1, Nat.zero_le _, Nat.le_refl _, rfl, rfl, rfl, mark_start _⟩
  case round =>
    obtain ⟨k, m, at', hk, hmk, rfl, rfl, rfl, HA⟩ := hrel
    by_cases hlt : k < p.size
    · have hlt' : k < p.data.toList.length := by rw [Array.length_toList]; exact hlt
      have hgk : p.data.toList[k] = p[k] := by rw [Array.getElem_toList]; rfl
      by_cases hc : p[k] = 37
      · have e1 : (((p[k]).toNat : Int) == 37) = true := by rw [hc]; rfl
        have HN : Hid (MarkAt p.data.toList (k + 1) (m + 1) k) := mark_hit HA.out hlt' (by rw [hgk]; exact hc) (by omega)
        clear hc hgk
        go_wp2
        go_round
        case rel => exact ⟨k + 1, m + 1, k, hlt, by omega, by go_num, by go_num, rfl, HN⟩
        case measure => simp [intOf]; omega
      · have e1 : (((p[k]).toNat : Int) == 37) = false := by
          rw [Bool.eq_false_iff]
          intro h
          simp at h
          exact hc (UInt8.toNat_inj.1 (by rw [show (37 : UInt8).toNat = 37 from rfl]; omega))
        have HN : Hid (MarkAt p.data.toList (k + 1) m at') := mark_skip HA.out hlt' (by rw [hgk]; exact hc)
        clear hc hgk
        go_wp2
        go_round
        case rel => exact ⟨k + 1, m, at', hlt, by omega, by go_num, rfl, rfl, HN⟩
        case measure => simp [intOf]; omega
    · have HN : Hid (m = cntL p.data.toList ∧ (openB p.data.toList = true → at' = ((aheadL p.data.toList).length : Int)) ∧ (-1 ≤ at' ∧ at' < 9223372036854775807)) := by
        have h := HA.out
        unfold MarkAt at h
        rw [List.take_of_length_le (by rw [size_list]; omega)] at h
        refine ⟨h.1, fun ho => h.2.1 ?_, h.2.2⟩
        rw [h.1]; simpa [openB] using ho
      go_wp2
      go_ret2
      exact ⟨at', by rw [← HN.out.1]; rfl, HN.out.2.1, HN.out.2.2, rfl⟩

theorem open_count {l : List UInt8} (h : cntL l = 1) : openB l = true := by unfold cntL at h; simp [openB, h]
theorem shut_count {l : List UInt8} (h : cntL l ≠ 1) : openB l = false := by unfold cntL at h; simp [openB, h]
theorem open_is (l : List UInt8) : openB l = decide (cntL l = 1) := rfl
theorem right_is (l : List UInt8) : rightB l = (!l.isEmpty && decide (cntL l ≤ 1)) := rfl

set_option maxRecDepth 100000 in
set_option maxHeartbeats 1000000 in
theorem refRight_any (p : ByteArray) (hp : p.size ≤ maxLen) (w : World) : Calls Try.prog 14 #[.string p] w fun e w' => e = .returned (.bool (rightB p.data.toList)) ∧ w' = w := by
  have HM := Lib.hid (marks_any p hp)
  clear hp
  cases he : p.toList.isEmpty with
  | true =>
    have HN : Hid (rightB p.data.toList = false) := by
      show _ = _
      rw [Lib.toList_data] at he
      rw [right_is, he]; rfl
    go_enter Try.func14, Try.ntmps14
    go_wp2_with (go_at_call 26; refine (HM.out _).mono ?_; rintro e w' ⟨a, rfl, _, _, rfl⟩)
    go_ret
    exact ⟨ret_bool HN.out.symm, rfl⟩
  | false =>
    have HN : Hid (rightB p.data.toList = decide (cntL p.data.toList ≤ 1)) := by
      show _ = _
      rw [Lib.toList_data] at he
      rw [right_is, he]; rfl
    go_enter Try.func14, Try.ntmps14
    go_wp2_with (go_at_call 26; refine (HM.out _).mono ?_; rintro e w' ⟨a, rfl, _, _, rfl⟩)
    go_ret
    exact ⟨ret_bool (by rw [HN.out, Bool.eq_iff_iff]; simp; omega), rfl⟩

set_option maxRecDepth 100000 in
set_option maxHeartbeats 1000000 in
theorem refOpen_any (p : ByteArray) (hp : p.size ≤ maxLen) (w : World) : Calls Try.prog 16 #[.string p] w fun e w' => e = .returned (.bool (openB p.data.toList)) ∧ w' = w := by
  have HM := Lib.hid (marks_any p hp)
  clear hp
  cases he : p.toList.isEmpty with
  | true =>
    have HN : Hid (openB p.data.toList = false) := by
      show _ = _
      rw [Lib.toList_data] at he
      simp at he
      simp [openB, he]
    go_enter Try.func16, Try.ntmps16
    go_wp2_with (go_at_call 26; refine (HM.out _).mono ?_; rintro e w' ⟨a, rfl, _, _, rfl⟩)
    go_ret
    exact ⟨ret_bool HN.out.symm, rfl⟩
  | false =>
    go_enter Try.func16, Try.ntmps16
    go_wp2_with (go_at_call 26; refine (HM.out _).mono ?_; rintro e w' ⟨a, rfl, _, _, rfl⟩)
    go_ret
    exact ⟨ret_bool (nat_beq _ 1), rfl⟩

set_option maxRecDepth 100000 in
set_option maxHeartbeats 1000000 in
theorem refFill_any (p s : ByteArray) (hp : p.size ≤ 1000000000000) (hs : s.size ≤ 1000000000000) (w : World) : Calls Try.prog 20 #[.string p, .string s] w (FillPost (fillL p.data.toList s.data.toList) w) := by
  have hm := marks_any p (by unfold maxLen; omega)
  by_cases hc : cntL p.data.toList = 1
  · have h := open_count hc
    have hl := open_lens h
    rw [size_list] at hl
    have HM : Hid (∀ w, Calls Try.prog 26 #[.string p] w fun e w' => e = .returned (.tuple #[.int .i64 1, .int .i64 ((aheadL p.data.toList).length : Nat)]) ∧ w' = w) := by
      intro w
      refine (hm w).mono ?_
      rintro e w' ⟨a, rfl, ha, _, rfl⟩
      rw [ha h, hc]
      exact ⟨rfl, rfl⟩
    have HA := Lib.hid (ext_ahead h)
    have HB := Lib.hid (ext_behind h)
    have HF : Hid (txt (fillL p.data.toList s.data.toList) = p.extract 0 (aheadL p.data.toList).length ++ s ++ p.extract ((aheadL p.data.toList).length + 1) p.size) := by
      show _ = _
      rw [fill_open h, ← txt_append, ← txt_append, txt_toList, ext_ahead h, ext_behind h]
    have hz1 : (p.extract 0 (aheadL p.data.toList).length).size = (aheadL p.data.toList).length := by rw [ext_ahead h, txt_size]
    have hz2 : (p.extract ((aheadL p.data.toList).length + 1) p.size).size = (behindL p.data.toList).length := by rw [ext_behind h, txt_size]
    generalize (aheadL p.data.toList).length = n at hl HM HF hz1 hz2
    have h1 : n ≤ p.size := by omega
    have h2 : n + 1 ≤ p.size := by omega
    have g1 : ¬ 9223372036854775807 < (p.extract 0 n).size + s.size := by omega
    have g2 : ¬ 9223372036854775807 < (p.extract 0 n).size + s.size + (p.extract (n + 1) p.size).size := by omega
    have g3 : (p.extract 0 n ++ s).size = (p.extract 0 n).size + s.size := ByteArray.size_append ..
    clear hm hc h hl HA HB hs hz1 hz2
    go_enter Try.func20, Try.ntmps20
    go_wp2_with (go_at_call 26; refine (HM.out _).mono ?_; rintro e w' ⟨rfl, rfl⟩)
    go_quiet (fail)
    go_wp2
    go_ret
    exact ⟨by rw [HF.out]; rfl, _, rfl⟩
  · have h := shut_count hc
    have HF : Hid (txt (fillL p.data.toList s.data.toList) = p) := by show _ = _; rw [fill_shut h, txt_toList]
    have e1 : (((cntL p.data.toList : Nat) : Int) != 1) = true := by generalize cntL p.data.toList = n at hc; simp; omega
    have HM := Lib.hid hm
    clear h hm hp hs hc
    go_enter Try.func20, Try.ntmps20
    go_wp2_with (go_at_call 26; refine (HM.out _).mono ?_; rintro e w' ⟨a, rfl, _, _, rfl⟩)
    go_ret
    exact ⟨by rw [HF.out]; rfl, 0, rfl⟩

end Go.Proofs.Ytijpihldeaflgaa
