/-
  What a line's first word is, and what is behind it; what is between two brackets; what a line says does not hang on blanks at its ends. No program, no world. No condition.
-/
import Derived.Lib.Strings
import Derived.Test.YtldddecaeloohaaDoorQM
namespace Go.Proofs.YtldddecaeloohaaDoor

theorem words_cons_blank {c : UInt8} {r : BS} (h : blankB c = true) : wordsL (c :: r) = wordsL r := by
  unfold wordsL
  simp [pieces, h]
theorem words_lead : ∀ (u l : BS), (∀ c ∈ u, blankB c = true) → wordsL (u ++ l) = wordsL l
  | [], _, _ => rfl
  | c :: r, l, h => by
    rw [List.cons_append, words_cons_blank (h c (by simp))]
    exact words_lead r l fun d hd => h d (by simp [hd])
theorem words_nil : wordsL [] = [] := rfl
theorem words_trail {t : BS} (ht : ∀ c ∈ t, blankB c = true) (l : BS) : wordsL (l ++ t) = wordsL l := by
  cases t with
  | nil => rw [List.append_nil]
  | cons c r =>
    have h1 : wordsL r = [] := by
      have := words_lead r [] fun d hd => ht d (by simp [hd])
      rwa [List.append_nil] at this
    unfold wordsL at h1 ⊢
    rw [pieces_app blankB l c r (ht c (by simp)), List.filter_append, h1, List.append_nil]
theorem words_trim (s : BS) : wordsL (trimOf s) = wordsL s := by
  obtain ⟨u, t, hu, ht, he⟩ := trim_parts s
  conv => rhs; rw [he]
  rw [words_lead u _ hu, words_trail ht]
theorem piece_parts : ∀ (l h : BS) (t : List BS), pieces blankB l = h :: t → (l = h ∧ t = []) ∨ ∃ c r, blankB c = true ∧ l = h ++ c :: r ∧ t = pieces blankB r
  | [], h, t, e => by
    simp only [pieces, List.cons.injEq] at e
    exact .inl ⟨e.1, e.2.symm⟩
  | c :: l, h, t, e => by
    by_cases hc : blankB c = true
    · simp only [pieces, hc, if_true, List.cons.injEq] at e
      exact .inr ⟨c, l, hc, by rw [← e.1]; rfl, e.2.symm⟩
    · have hc' : blankB c = false := by simpa using hc
      simp only [pieces, hc'] at e
      cases hp : pieces blankB l with
      | nil => exact absurd hp (pieces_ne blankB l)
      | cons h2 t2 =>
        rw [hp] at e
        simp only [Bool.false_eq_true, if_false, List.cons.injEq] at e
        obtain ⟨rfl, rfl⟩ := e
        rcases piece_parts l h2 t2 hp with ⟨h1, h2⟩ | ⟨d, r, h1, h2, h3⟩
        · exact .inl ⟨by rw [h1], h2⟩
        · exact .inr ⟨d, r, h1, by rw [h2]; rfl, h3⟩
/-- The first word of a text that begins with no blank: it is ahead of all else. -/
theorem first_word {l w : BS} {ws : List BS} (hl : ∀ c, l.head? = some c → blankB c = false) (h : wordsL l = w :: ws) : w ≠ [] ∧ ∃ r, l = w ++ r ∧ ws = wordsL r := by
  cases l with
  | nil => cases h
  | cons c r =>
    have hc := hl c rfl
    cases hp : pieces blankB (c :: r) with
    | nil => exact absurd hp (pieces_ne blankB _)
    | cons p t =>
      have hp0 : p ≠ [] := by
        rintro rfl
        rcases piece_parts _ _ _ hp with ⟨h1, _⟩ | ⟨d, r', h1, h2, _⟩
        · cases h1
        · cases h2; rw [h1] at hc; cases hc
      unfold wordsL at h
      rw [hp, List.filter_cons_of_pos (by simpa using hp0)] at h
      obtain ⟨rfl, h2⟩ := List.cons.inj h
      refine ⟨hp0, ?_⟩
      rcases piece_parts _ _ _ hp with ⟨h1, h3⟩ | ⟨d, r', h1, h3, h4⟩
      · exact ⟨[], by rw [List.append_nil]; exact h1, by rw [← h2, h3]; rfl⟩
      · refine ⟨d :: r', h3, ?_⟩
        rw [words_cons_blank h1, ← h2, h4]; rfl
theorem trim_void {l : BS} : trimOf l = [] ↔ wordsL l = [] := by
  rw [← words_trim]
  constructor
  · intro h; rw [h]; rfl
  · intro h
    cases hl : trimOf l with
    | nil => rfl
    | cons c r =>
      exfalso
      have hc : blankB c = false := (trim_tight l).1 c (by rw [hl]; rfl)
      rw [hl] at h
      unfold wordsL at h
      have : pieces blankB (c :: r) ≠ [] := pieces_ne blankB _
      cases hp : pieces blankB (c :: r) with
      | nil => exact this hp
      | cons p t =>
        have hp0 : p ≠ [] := by
          rintro rfl
          rcases piece_parts _ _ _ hp with ⟨h1, _⟩ | ⟨d, r', h1, h2, _⟩
          · cases h1
          · cases h2; rw [h1] at hc; cases hc
        rw [hp, List.filter_cons_of_pos (by simpa using hp0)] at h
        cases h
/-- What firstWord tells. -/
def fwd (s : BS) : BS × BS := match wordsL s with | [] => ([], []) | w :: _ => (w, restL (trimOf s) w)
theorem fwd_nil {s : BS} (h : wordsL s = []) : fwd s = ([], []) := by unfold fwd; rw [h]
theorem fwd_cons {s w : BS} {ws : List BS} (h : wordsL s = w :: ws) : fwd s = (w, restL (trimOf s) w) := by unfold fwd; rw [h]
theorem fwd_prefix {s w : BS} {ws : List BS} (h : wordsL s = w :: ws) : Lib.trimPrefix (trimOf s) w = (trimOf s).drop w.length := by
  rw [← words_trim] at h
  obtain ⟨_, r, hr, _⟩ := first_word (trim_tight s).1 h
  unfold Lib.trimPrefix Lib.hasPrefix
  rw [if_pos (by rw [List.isPrefixOf_iff_prefix, hr]; exact List.prefix_append _ _)]
theorem rest_none {s w : BS} {ws : List BS} (h : wordsL s = w :: ws) : restL (trimOf s) w = [] ↔ ws = [] := by
  rw [← words_trim] at h
  obtain ⟨_, r, hr, hw⟩ := first_word (trim_tight s).1 h
  unfold restL
  rw [hr, List.drop_left, trim_void, hw]
/-- Between brackets? -/
theorem paren_is (l : BS) : (Lib.hasPrefix l [40] && Lib.hasSuffix (Lib.trimPrefix l [40]) [41]) = decide (2 ≤ l.length ∧ l.head? = some 40 ∧ l.getLast? = some 41) := by
  cases l with
  | nil => rfl
  | cons c r =>
    by_cases hc : c = 40
    · subst hc
      have e1 : Lib.hasPrefix (40 :: r) [40] = true := by simp [Lib.hasPrefix, List.isPrefixOf]
      have e2 : Lib.trimPrefix (40 :: r) [40] = r := by unfold Lib.trimPrefix; rw [e1]; rfl
      rw [e1, e2, Bool.true_and]
      unfold Lib.hasSuffix
      rcases List.eq_nil_or_concat r with rfl | ⟨u, d, rfl⟩
      · rfl
      · rw [List.concat_eq_append, Bool.eq_iff_iff, List.isSuffixOf_iff_suffix, decide_eq_true_eq]
        constructor
        · rintro ⟨v, hv⟩
          obtain ⟨_, hd⟩ := List.append_inj' hv rfl
          cases hd
          refine ⟨by simp, rfl, ?_⟩
          show ((40 : UInt8) :: u ++ [41]).getLast? = some 41
          rw [List.getLast?_append]; rfl
        · rintro ⟨_, _, h⟩
          have h' : ((40 : UInt8) :: u ++ [d]).getLast? = some 41 := h
          rw [List.getLast?_append] at h'
          have h2 : d = 41 := by simpa using h'
          subst h2
          exact List.suffix_append _ _
    · have e1 : Lib.hasPrefix (c :: r) [40] = false := by
        have : (40 == c) = false := by simpa using fun e : 40 = c => hc e.symm
        simp [Lib.hasPrefix, List.isPrefixOf, this]
      rw [e1, Bool.false_and]
      refine (decide_eq_false fun h => ?_).symm
      have := h.2.1
      simp at this
      exact hc this
theorem paren_mid {l : BS} (h : 2 ≤ l.length ∧ l.head? = some 40 ∧ l.getLast? = some 41) : Lib.trimSuffix (Lib.trimPrefix l [40]) [41] = l.tail.dropLast := by
  have h1 := paren_is l
  rw [decide_eq_true h, Bool.and_eq_true] at h1
  have e : Lib.trimPrefix l [40] = l.tail := by
    unfold Lib.trimPrefix
    rw [if_pos h1.1]
    cases l <;> rfl
  rw [e] at h1 ⊢
  unfold Lib.trimSuffix
  rw [if_pos h1.2, List.dropLast_eq_take]; rfl
theorem mid_len (l : BS) : (Lib.trimSuffix (Lib.trimPrefix l [40]) [41]).length ≤ l.length := by
  have h1 : (Lib.trimPrefix l [40]).length ≤ l.length := by
    unfold Lib.trimPrefix
    split
    · rw [List.length_drop]; omega
    · exact Nat.le_refl _
  refine Nat.le_trans ?_ h1
  unfold Lib.trimSuffix
  split
  · rw [List.length_take]; omega
  · exact Nat.le_refl _

/-! ### a line, and the line without the blanks at its ends -/
theorem signs_clean : NoBl signsL := by
  have h : ∀ x ∈ signsL, ∀ c ∈ x, blankB c = false := by decide
  exact h
theorem rule_head (no : Int) {a a' : BS} (b : BS) (h : trimOf a = trimOf a') : ruleL no a b = ruleL no a' b := by
  unfold ruleL ruleBad
  rw [h]
theorem eq_trim (no : Int) (s : BS) : eqL no (trimOf s) = eqL no s := by
  obtain ⟨h1, h2⟩ := cut_trim signs_clean s
  unfold eqL
  simp only
  rw [← h1]
  by_cases hn : (cutOf signsL s).2.1 = []
  · rw [if_pos hn, if_pos hn]
  · rw [if_neg hn, if_neg hn]
    obtain ⟨h3, t, ht, h4⟩ := h2 hn
    rw [h4, rule_trail no _ _ ht, trim_trail ht, h3, rule_head no _ h3]
theorem one_no (no : Int) (t : BS) : oneL no t = (oneL 0 t).map fun n => { n with no := no } := by
  have hr : ∀ a b, ruleL no a b = (ruleL 0 a b).map fun n => { n with no := no } := fun a b => by
    unfold ruleL
    split <;> rfl
  have hi : ∀ w r, ifL no w r = (ifL 0 w r).map fun n => { n with no := no } := fun w r => by
    unfold ifL
    split
    · simp only
      split <;> rfl
    · rfl
  have he : ∀ x, eqL no x = (eqL 0 x).map fun n => { n with no := no } := fun x => by
    unfold eqL
    simp only
    split
    · rfl
    · split
      · exact hr _ _
      · split <;> rfl
  unfold oneL
  split
  · rfl
  · split
    · exact hi _ _
    split
    · split <;> rfl
    split
    · split <;> rfl
    split
    · split <;> rfl
    split
    · split <;> rfl
    · exact he _
end Go.Proofs.YtldddecaeloohaaDoor
