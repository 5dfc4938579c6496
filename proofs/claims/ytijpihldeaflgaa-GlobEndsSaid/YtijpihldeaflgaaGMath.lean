/-
  Plain words: patterns with a percent sign: what is right, open, matched, filled. No program, no world.
-/
import Derived.Lib.Bytealg
import Derived.Test.YtijpihldeaflgaaCut
namespace Go.Proofs.Ytijpihldeaflgaa

def openB (l : List UInt8) : Bool := decide (l.count 37 = 1)
def rightB (l : List UInt8) : Bool := !l.isEmpty && decide (l.count 37 ≤ 1)
def aheadL (l : List UInt8) : List UInt8 := l.takeWhile (fun c => c != 37)
def behindL (l : List UInt8) : List UInt8 := (l.dropWhile (fun c => c != 37)).drop 1

theorem all_ne {a : List UInt8} (h : (37 : UInt8) ∉ a) : ∀ c ∈ a, (c != 37) = true := by
  intro c hc
  simp only [bne_iff_ne, ne_eq]
  rintro rfl
  exact h hc
theorem ahead_cut (a b : List UInt8) (h : (37 : UInt8) ∉ a) : aheadL (a ++ 37 :: b) = a := by
  unfold aheadL
  rw [List.takeWhile_append_of_pos (all_ne h)]
  simp
theorem behind_cut (a b : List UInt8) (h : (37 : UInt8) ∉ a) : behindL (a ++ 37 :: b) = b := by
  unfold behindL
  rw [List.dropWhile_append_of_pos (all_ne h)]
  simp
theorem open_cut (a b : List UInt8) (ha : (37 : UInt8) ∉ a) (hb : (37 : UInt8) ∉ b) : openB (a ++ 37 :: b) = true := by
  simp [openB, List.count_append, List.count_eq_zero_of_not_mem ha, List.count_eq_zero_of_not_mem hb]
theorem first_pct {l : List UInt8} (h : (37 : UInt8) ∈ l) : ∃ a b, l = a ++ 37 :: b ∧ (37 : UInt8) ∉ a := List.eq_append_cons_of_mem h
theorem open_split {l : List UInt8} (h : openB l = true) : l = aheadL l ++ 37 :: behindL l ∧ (37 : UInt8) ∉ aheadL l ∧ (37 : UInt8) ∉ behindL l := by
  have hc : l.count 37 = 1 := by simpa [openB] using h
  have hm : (37 : UInt8) ∈ l := by
    rw [← List.count_pos_iff]; omega
  obtain ⟨a, b, rfl, ha⟩ := first_pct hm
  rw [ahead_cut a b ha, behind_cut a b ha]
  refine ⟨rfl, ha, ?_⟩
  rw [List.count_append, List.count_cons_self] at hc
  intro hb
  have := List.count_pos_iff.2 hb
  omega
theorem ahead_more {a : List UInt8} (b : List UInt8) (h : (37 : UInt8) ∈ a) : aheadL (a ++ b) = aheadL a := by
  obtain ⟨x, y, rfl, hx⟩ := first_pct h
  rw [List.append_assoc, List.cons_append, ahead_cut x _ hx, ahead_cut x _ hx]
theorem index_cut (a b : List UInt8) (h : (37 : UInt8) ∉ a) : Lib.indexByte (a ++ 37 :: b) 37 = (a.length : Int) := by
  induction a with
  | nil => simp [Lib.indexByte]
  | cons x a ih =>
    have hx : (x == 37) = false := by simp; rintro rfl; exact h (by simp)
    have := ih (fun hh => h (by simp [hh]))
    simp only [List.cons_append, Lib.indexByte, hx, this]
    simp
theorem open_lens {l : List UInt8} (h : openB l = true) : (aheadL l).length + 1 + (behindL l).length = l.length := by
  have := congrArg List.length (open_split h).1
  rw [List.length_append, List.length_cons] at this
  omega
theorem open_take {l : List UInt8} (h : openB l = true) : l.take (aheadL l).length = aheadL l ∧ l.drop ((aheadL l).length + 1) = behindL l := by
  obtain ⟨h1, h2, h3⟩ := open_split h
  generalize aheadL l = a at *
  generalize behindL l = b at *
  subst h1
  constructor
  · simp
  · rw [show a ++ 37 :: b = (a ++ [37]) ++ b by simp, List.drop_append_of_le_length (by simp)]; simp
theorem open_right {l : List UInt8} (h : openB l = true) : rightB l = true := by
  have hc : l.count 37 = 1 := by simpa [openB] using h
  cases l with
  | nil => simp at hc
  | cons x r => simp [rightB, hc]

/-- What a pattern makes of a text: the stem, and whether it is matched. -/
def matchL (p s : List UInt8) : List UInt8 × Bool :=
  if openB p then
    if Lib.hasPrefix s (aheadL p) then
      if Lib.hasSuffix (s.drop (aheadL p).length) (behindL p) then ((s.drop (aheadL p).length).take ((s.drop (aheadL p).length).length - (behindL p).length), true) else ([], false)
    else ([], false)
  else ([], rightB p && s == p)
def fillL (p s : List UInt8) : List UInt8 := if openB p then aheadL p ++ s ++ behindL p else p
def substL (p q s : List UInt8) : List UInt8 := if (matchL p s).2 then fillL q (matchL p s).1 else s
def anyL (ps : List (List UInt8)) (s : List UInt8) : Bool := ps.any (fun p => (matchL p s).2)

theorem match_hit {p s stem : List UInt8} (h : openB p = true) (hs : s = aheadL p ++ stem ++ behindL p) : matchL p s = (stem, true) := by
  have h1 : Lib.hasPrefix s (aheadL p) = true := by
    unfold Lib.hasPrefix; rw [List.isPrefixOf_iff_prefix]; exact ⟨stem ++ behindL p, by rw [hs]; simp⟩
  have h2 : s.drop (aheadL p).length = stem ++ behindL p := by rw [hs, List.append_assoc]; simp
  have h3 : Lib.hasSuffix (s.drop (aheadL p).length) (behindL p) = true := by
    unfold Lib.hasSuffix; rw [List.isSuffixOf_iff_suffix, h2]; exact ⟨stem, rfl⟩
  unfold matchL
  rw [if_pos h, if_pos h1, if_pos h3, h2]
  simp
theorem match_inv {p s : List UInt8} (h : openB p = true) (hm : (matchL p s).2 = true) : s = aheadL p ++ (matchL p s).1 ++ behindL p := by
  have hb : Lib.hasPrefix s (aheadL p) = true ∧ Lib.hasSuffix (s.drop (aheadL p).length) (behindL p) = true := by
    unfold matchL at hm
    rw [if_pos h] at hm
    split at hm
    · split at hm
      · exact ⟨by assumption, by assumption⟩
      · simp at hm
    · simp at hm
  obtain ⟨h1, h2⟩ := hb
  unfold Lib.hasPrefix at h1
  unfold Lib.hasSuffix at h2
  rw [List.isPrefixOf_iff_prefix] at h1
  rw [List.isSuffixOf_iff_suffix] at h2
  obtain ⟨t, ht⟩ := h1
  have hd : s.drop (aheadL p).length = t := by rw [← ht]; simp
  rw [hd] at h2
  obtain ⟨u, hu⟩ := h2
  have hs : s = aheadL p ++ u ++ behindL p := by rw [← ht, ← hu, List.append_assoc]
  rw [match_hit h hs]
  exact hs
theorem match_miss {p s : List UInt8} (hm : (matchL p s).2 = false) : (matchL p s).1 = [] := by
  unfold matchL at hm ⊢
  split
  · rename_i h
    rw [if_pos h] at hm
    split
    · rename_i h1
      rw [if_pos h1] at hm
      split
      · rename_i h2
        rw [if_pos h2] at hm
        simp at hm
      · rfl
    · rfl
  · rfl
theorem match_shut {p s : List UInt8} (h : openB p = false) : matchL p s = ([], rightB p && s == p) := by
  unfold matchL; rw [if_neg (by simp [h])]
theorem fill_open {p : List UInt8} (h : openB p = true) (s : List UInt8) : fillL p s = aheadL p ++ s ++ behindL p := by unfold fillL; rw [if_pos h]
theorem fill_shut {p : List UInt8} (h : openB p = false) (s : List UInt8) : fillL p s = p := by unfold fillL; rw [if_neg (by simp [h])]
theorem match_fill {p : List UInt8} (h : openB p = true) (s : List UInt8) : matchL p (fillL p s) = (s, true) := match_hit h (fill_open h s)
theorem fill_match {p s : List UInt8} (hm : (matchL p s).2 = true) : fillL p (matchL p s).1 = s ∧ rightB p = true := by
  cases h : openB p with
  | true => rw [fill_open h]; exact ⟨(match_inv h hm).symm, open_right h⟩
  | false =>
    rw [fill_shut h]
    rw [match_shut h] at hm
    simp at hm
    exact ⟨hm.2.symm, hm.1⟩
theorem subst_hit {p q s : List UInt8} (hm : (matchL p s).2 = true) : substL p q s = fillL q (matchL p s).1 := by unfold substL; rw [if_pos hm]
theorem subst_miss {p q s : List UInt8} (hm : (matchL p s).2 = false) : substL p q s = s := by unfold substL; rw [if_neg (by simp [hm])]
theorem subst_self (p s : List UInt8) : substL p p s = s := by
  cases hm : (matchL p s).2 with
  | true => rw [subst_hit hm]; exact (fill_match hm).1
  | false => exact subst_miss hm
theorem subst_turn {p q s : List UInt8} (hq : openB q = true) (hm : (matchL p s).2 = true) : substL q p (substL p q s) = s := by
  rw [subst_hit hm]
  have h := match_fill hq (matchL p s).1
  rw [subst_hit (by rw [h]), h]
  exact (fill_match hm).1
theorem match_len (p s : List UInt8) : (matchL p s).1.length ≤ s.length := by
  cases hm : (matchL p s).2 with
  | false => rw [match_miss hm]; simp
  | true =>
    cases h : openB p with
    | false => rw [match_shut h]; simp
    | true =>
      have := congrArg List.length (match_inv h hm)
      simp only [List.length_append] at this
      omega
theorem fill_len (p s : List UInt8) : (fillL p s).length ≤ p.length + s.length := by
  cases h : openB p with
  | false => rw [fill_shut h]; omega
  | true => rw [fill_open h]; have := open_lens h; simp only [List.length_append]; omega
theorem subst_len (p q s : List UInt8) : (substL p q s).length ≤ q.length + s.length := by
  cases hm : (matchL p s).2 with
  | false => rw [subst_miss hm]; omega
  | true => rw [subst_hit hm]; have := fill_len q (matchL p s).1; have := match_len p s; omega

end Go.Proofs.Ytijpihldeaflgaa
