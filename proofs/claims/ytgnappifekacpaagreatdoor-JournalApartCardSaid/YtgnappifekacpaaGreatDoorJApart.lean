/-
  What JournalApart asks, in plain words.
-/
import Derived.Deep.QuietTactic
import Derived.BigQuiet
import Derived.Test.YtgnappifekacpaaGreatDoorJRow
namespace Go.Proofs.YtgnappifekacpaaGreatDoor
open Go.RowKit Go.Shelf Go.Maps

def ONL : BS := [111, 110, 101]
def TWL : BS := [100, 47, 116, 119, 111]
def NS4 : List BS := [ONL, besideL ONL, TWL, besideL TWL]
theorem n4_path : pathB ONL = true ∧ pathB (besideL ONL) = true ∧ pathB TWL = true ∧ pathB (besideL TWL) = true := by decide +kernel
theorem n4_calm : ∀ a ∈ NS4, ∀ b ∈ NS4, way a b = false := by decide +kernel
theorem n4_len : NS4.length < 200 := by decide
theorem n4_1 : ONL ∈ NS4 := by simp [NS4]
theorem n4_2 : besideL ONL ∈ NS4 := by simp [NS4]
theorem n4_3 : TWL ∈ NS4 := by simp [NS4]
theorem n4_4 : besideL TWL ∈ NS4 := by simp [NS4]
theorem n4_ne : ONL ≠ TWL ∧ ONL ≠ besideL TWL ∧ besideL ONL ≠ TWL ∧ besideL ONL ≠ besideL TWL := by decide
/-- Two journals, and nothing beside. -/
structure P4 (S : St) (xs ys : LL) : Prop where
  keys : Keys NS4 S.now
  one : textOf S.now ONL = linesOfAll xs
  two : textOf S.now TWL = linesOfAll ys
  b1 : textOf S.now (besideL ONL) = []
  b2 : textOf S.now (besideL TWL) = []
  f1 : ∀ x ∈ xs, Fit x
  f2 : ∀ y ∈ ys, Fit y
section
variable {S : St} {xs ys : LL} {n : Nat}
theorem P4.new : P4 (0, [], [], []) [] [] := ⟨Keys.nil, rfl, rfl, rfl, rfl, by simp, by simp⟩
theorem P4.used (h : P4 S xs ys) (hs : Srt S.now) (h1 : xs.length ≤ 20) (h2 : ys.length ≤ 20) : used S.now ≤ 520000 ∧ (linesOfAll xs).length ≤ 260000 ∧ (linesOfAll ys).length ≤ 260000 := by
  have hk := (keys_sizes hs h.keys).1
  have k1 := lines_few h1 h.f1
  have k2 := lines_few h2 h.f2
  simp only [NS4, List.map_cons, List.map_nil, List.sum_cons, List.sum_nil, h.one, h.two, h.b1, h.b2, List.length_nil] at hk
  exact ⟨by omega, k1, k2⟩
theorem jAdd_did {room : Int} {S : St} {p : BS} {x : List BS} (hc : (jAdd room S p x).1 = 0) : Fit x ∧ (jAdd room S p x).2.now = put (p, textOf S.now p ++ lineOf x, S.clock + 1) S.now := by
  unfold jAdd at hc ⊢
  split at hc
  · rename_i h1
    split at hc
    · rename_i h2
      rw [if_pos h1, if_pos h2, opA_ok hc]
      exact ⟨fit_lineC h2, after1 _ _ _ _⟩
    · rename_i h2; exact absurd hc h2
  · cases hc
theorem fits_snoc {l : LL} {x : List BS} (h : ∀ y ∈ l, Fit y) (hx : Fit x) : ∀ y ∈ l ++ [x], Fit y := fun y hy => by
  rcases List.mem_append.1 hy with hy | hy
  · exact h y hy
  · simp at hy; rw [hy]; exact hx
theorem P4.add1 (h : P4 S xs ys) (hg : Good 1048576 n S) {x : List BS} (hc : (jAdd 1048576 S ONL x).1 = 0) : P4 (jAdd 1048576 S ONL x).2 (xs ++ [x]) ys := by
  obtain ⟨hx, hn⟩ := jAdd_did hc
  have hs := hg.files.srt
  obtain ⟨e1, e2, e3, e4⟩ := n4_ne
  refine ⟨?_, ?_, ?_, ?_, ?_, fits_snoc h.f1 hx, h.f2⟩ <;> rw [hn]
  · exact h.keys.put n4_1 _
  · rw [text_put_same hs, h.one, lines_app, lines_one]
  · rw [text_put_other hs (Ne.symm e1), h.two]
  · rw [text_put_other hs (Ne.symm (beside_ne _)), h.b1]
  · rw [text_put_other hs (Ne.symm e2), h.b2]
theorem P4.add2 (h : P4 S xs ys) (hg : Good 1048576 n S) {x : List BS} (hc : (jAdd 1048576 S TWL x).1 = 0) : P4 (jAdd 1048576 S TWL x).2 xs (ys ++ [x]) := by
  obtain ⟨hx, hn⟩ := jAdd_did hc
  have hs := hg.files.srt
  obtain ⟨e1, e2, e3, e4⟩ := n4_ne
  refine ⟨?_, ?_, ?_, ?_, ?_, h.f1, fits_snoc h.f2 hx⟩ <;> rw [hn]
  · exact h.keys.put n4_3 _
  · rw [text_put_other hs e1, h.one]
  · rw [text_put_same hs, h.two, lines_app, lines_one]
  · rw [text_put_other hs e3, h.b1]
  · rw [text_put_other hs (Ne.symm (beside_ne _)), h.b2]
theorem P4.anew (h : P4 S xs ys) (hg : Good 1048576 n S) (h1 : xs.length ≤ 20) (h2 : ys.length ≤ 20) : (jAnew 1048576 S ONL xs).1 = 0 ∧ P4 (jAnew 1048576 S ONL xs).2 xs ys := by
  have hs := hg.files.srt
  obtain ⟨u1, u2, u3⟩ := h.used hs h1 h2
  obtain ⟨e1, e2, e3, e4⟩ := n4_ne
  obtain ⟨a1, a2, a3, a4⟩ := anew_ok hg h.keys n4_calm n4_len n4_1 n4_2 n4_path.1 n4_path.2.1 h.f1 (by omega) (by omega)
  have hd := hs.drp (besideL ONL)
  refine ⟨a1, ?_, ?_, ?_, ?_, ?_, h.f1, h.f2⟩ <;> rw [a4]
  · exact (h.keys.drp _).put n4_1 _
  · rw [text_put_same hd]
  · rw [text_put_other hd (Ne.symm e1), text_drp_other hs (Ne.symm e3), h.two]
  · rw [text_put_other hd (Ne.symm (beside_ne _))]; unfold textOf; rw [look_drp_same]; rfl
  · rw [text_put_other hd (Ne.symm e2), text_drp_other hs (Ne.symm e4), h.b2]
theorem P4.open2 (h : P4 S xs ys) (hg : Good 1048576 n S) (h1 : xs.length ≤ 20) (h2 : ys.length ≤ 20) : (jOpen 1048576 S TWL).1 = ys ∧ (jOpen 1048576 S TWL).2.1 = 0 ∧ P4 (jOpen 1048576 S TWL).2.2 xs ys ∧ ∀ q, (textOf S.now q).length ≤ 1000000 := by
  have hs := hg.files.srt
  obtain ⟨u1, u2, u3⟩ := h.used hs h1 h2
  obtain ⟨e1, e2, e3, e4⟩ := n4_ne
  have o := open_ok (p := TWL) hg h.keys n4_calm n4_len n4_3 n4_4 n4_path.2.2.1 n4_path.2.2.2 (by rw [h.two]; omega) (by rw [h.two]; omega)
  have hl := (lists_lines ys h.f2).1
  refine ⟨by rw [o.lists, h.two, hl], o.code, ⟨o.keys, ?_, ?_, ?_, text_none o.beside, h.f1, h.f2⟩, short_all u1 (by omega)⟩
  · rw [o.other _ e1 e2, h.one]
  · rw [o.text, h.two, hl]
  · rw [o.other _ e3 e4, h.b1]
theorem P4.open1 (h : P4 S xs ys) (hg : Good 1048576 n S) (h1 : xs.length ≤ 20) (h2 : ys.length ≤ 20) : (jOpen 1048576 S ONL).1 = xs ∧ (jOpen 1048576 S ONL).2.1 = 0 ∧ ∀ q, (textOf S.now q).length ≤ 1000000 := by
  have hs := hg.files.srt
  obtain ⟨u1, u2, u3⟩ := h.used hs h1 h2
  have o := open_ok (p := ONL) hg h.keys n4_calm n4_len n4_1 n4_2 n4_path.1 n4_path.2.1 (by rw [h.one]; omega) (by rw [h.one]; omega)
  exact ⟨by rw [o.lists, h.one, (lists_lines xs h.f1).1], o.code, short_all u1 (by omega)⟩
end

end Go.Proofs.YtgnappifekacpaaGreatDoor
