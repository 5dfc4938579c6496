/-
  Words put together and cut again; what chapter 10's functions answer of words, in plain words. No program.
-/
import Derived.Test.YtfdlcmjjnoapfaaGreatDoorNWt
namespace Go.Proofs.YtfdlcmjjnoapfaaGreatDoor

theorem pieces_sepT (p : UInt8 → Bool) (a : BT) (c : UInt8) (b : BT) (hc : p c = true) : pieces p (a ++ c :: b) = pieces p a ++ pieces p b := by
  induction a with
  | nil => simp [pieces, hc]
  | cons x a ih =>
    simp only [List.cons_append, pieces, ih]
    split
    · simp
    · cases h : pieces p a with
      | nil => exact absurd h (pieces_ne p a)
      | cons y z => simp
theorem word_words {x : BT} (h : WordB x) : wordsT x = [x] := by
  unfold wordsT
  rw [pieces_none blankB x h.2, List.filter_cons_of_pos (by simpa using h.1)]
  rfl
theorem words_join : ∀ (l : List BT), (∀ x ∈ l, WordB x) → wordsT (joinT l) = l
  | [], _ => by simp [joinT, Lib.join, wordsT, pieces]
  | [x], h => by
    have e : joinT [x] = x := Lib.join_one x [32]
    rw [e]; exact word_words (h x (by simp))
  | x :: y :: r, h => by
    have ih := words_join (y :: r) (fun z hz => h z (List.mem_cons_of_mem _ hz))
    have e : joinT (x :: y :: r) = x ++ 32 :: joinT (y :: r) := by
      have : joinT (x :: y :: r) = x ++ [32] ++ joinT (y :: r) := join_cons_ne (by simp) [32]
      rw [this, List.append_assoc]; rfl
    have h1 := word_words (h x (by simp))
    unfold wordsT at ih h1 ⊢
    rw [e, pieces_sepT blankB x 32 _ (by decide), List.filter_append, ih, h1]
    rfl
theorem words_all (t : BT) : ∀ x ∈ wordsT t, WordB x := fun _ hx => (words_memT hx).1
theorem joinT_one (x : BT) : joinT [x] = x := Lib.join_one x [32]

/-! ### one function each -/
theorem call_sort (t : BT) (h : t.length ≤ 3999) : callT nSort [t] = (joinT (sortT (wordsT t)), 0) := by
  have : callT nSort [t] = finT (some (joinT (sortT (wordsT t)))) := rfl
  rw [this, fin_ok]
  have h1 := wt_join (sortT (wordsT t))
  have h2 := wt_sort (wordsT t)
  have h3 := wt_words t
  omega
theorem call_filter (p t : BT) (h : t.length ≤ 3999) : callT nFilter [p, t] = (joinT ((wordsT t).filter (anyL (wordsT p))), 0) := by
  have : callT nFilter [p, t] = finT (some (joinT ((wordsT t).filter (anyL (wordsT p))))) := rfl
  rw [this, fin_ok]
  have h1 := wt_join ((wordsT t).filter (anyL (wordsT p)))
  have h2 := wt_filter (anyL (wordsT p)) (wordsT t)
  have h3 := wt_words t
  omega
theorem call_filterOut (p t : BT) (h : t.length ≤ 3999) : callT nFilterOut [p, t] = (joinT ((wordsT t).filter (fun w => !anyL (wordsT p) w)), 0) := by
  have : callT nFilterOut [p, t] = finT (some (joinT ((wordsT t).filter (fun w => !anyL (wordsT p) w)))) := rfl
  rw [this, fin_ok]
  have h1 := wt_join ((wordsT t).filter (fun w => !anyL (wordsT p) w))
  have h2 := wt_filter (fun w => !anyL (wordsT p) w) (wordsT t)
  have h3 := wt_words t
  omega
theorem call_strip (t : BT) (h : t.length ≤ 3999) : callT nStrip [t] = (joinT (wordsT t), 0) := by
  have : callT nStrip [t] = finT (some (joinT (wordsT t))) := rfl
  rw [this, fin_ok]
  have h1 := wt_join (wordsT t)
  have h3 := wt_words t
  omega
theorem call_first (t : BT) (h : t.length ≤ 3999) : callT nFirstword [t] = ((wordsT t).headD [], 0) := by
  have h0 : callT nFirstword [t] = finT (some (joinT ((wordsT t).take 1))) := rfl
  have e : joinT ((wordsT t).take 1) = (wordsT t).headD [] := by
    cases wordsT t with
    | nil => rfl
    | cons x r => exact joinT_one x
  rw [h0, e, fin_ok]
  cases hw : wordsT t with
  | nil => simp
  | cons x r => have := (words_memT (hw ▸ List.mem_cons_self : x ∈ wordsT t)).2; simp only [List.headD_cons]; omega
theorem call_last (t : BT) (h : t.length ≤ 3999) : callT nLastword [t] = ((wordsT t).getLast?.getD [], 0) := by
  have h0 : callT nLastword [t] = finT (some (joinT ((wordsT t).drop ((wordsT t).length - 1)))) := rfl
  have e : joinT ((wordsT t).drop ((wordsT t).length - 1)) = (wordsT t).getLast?.getD [] := by
    rcases List.eq_nil_or_concat (wordsT t) with hn | ⟨l, x, hn⟩
    · rw [hn]; rfl
    · rw [hn, List.concat_eq_append, List.length_append, List.length_singleton, Nat.add_sub_cancel, List.drop_left, List.getLast?_concat]
      exact joinT_one x
  rw [h0, e, fin_ok]
  cases hg : (wordsT t).getLast? with
  | none => simp
  | some x => have := (words_memT (List.mem_of_getLast? hg)).2; simp only [Option.getD_some]; omega
theorem call_each1 (f : BT → BT) (N x : BT) (hN : callT N [x] = finT (some (joinT ((wordsT x).map f)))) (hx : WordB x) (hl : (f x).length ≤ 4000) : callT N [x] = (f x, 0) := by
  rw [hN, word_words hx, List.map_cons, List.map_nil, joinT_one, fin_ok hl]
theorem call_ne1 (f : BT → BT) (N x : BT) (hN : callT N [x] = finT (some (joinT (neT ((wordsT x).map f))))) (hx : WordB x) (hl : (f x).length ≤ 4000) : callT N [x] = (f x, 0) := by
  have e : joinT (neT [f x]) = f x := by
    unfold neT
    by_cases h : f x = []
    · rw [List.filter_cons_of_neg (by simpa using h), h]; rfl
    · rw [List.filter_cons_of_pos (by simpa using h)]; exact joinT_one _
  rw [hN, word_words hx, List.map_cons, List.map_nil, e, fin_ok hl]
theorem call_dir1 {x : BT} (hx : WordB x) (h : x.length ≤ 3998) : callT nDir [x] = (dirOf x, 0) := call_each1 dirOf nDir x rfl hx (by
  unfold dirOf
  split
  · decide
  · rw [List.length_take]; omega)
theorem call_notdir1 {x : BT} (hx : WordB x) (h : x.length ≤ 3998) : callT nNotdir [x] = (notdirOf x, 0) := call_ne1 notdirOf nNotdir x rfl hx (by unfold notdirOf; rw [List.length_drop]; omega)
theorem call_suffix1 {x : BT} (hx : WordB x) (h : x.length ≤ 3998) : callT nSuffix [x] = (suffixOf x, 0) := call_ne1 suffixOf nSuffix x rfl hx (by
  unfold suffixOf
  split
  · simp
  · rw [List.length_drop]; omega)
theorem call_base1 {x : BT} (hx : WordB x) (h : x.length ≤ 3998) : callT nBasename [x] = (baseOf x, 0) := call_ne1 baseOf nBasename x rfl hx (by
  unfold baseOf
  split
  · omega
  · rw [List.length_take]; omega)
theorem dir_notdir (x : BT) : (slashAt x < 0 ∧ dirOf x = [46, 47] ∧ notdirOf x = x) ∨ (0 ≤ slashAt x ∧ dirOf x ++ notdirOf x = x) := by
  have hb := last_bound 47 x 0 x.length
  unfold dirOf notdirOf
  unfold slashAt at *
  by_cases h : lastIn 47 x 0 x.length < 0
  · left
    refine ⟨h, by rw [if_pos h], ?_⟩
    rw [show (lastIn 47 x 0 x.length + 1).toNat = 0 by omega, List.drop_zero]
  · right
    refine ⟨by omega, ?_⟩
    rw [if_neg h, List.take_append_drop]
theorem base_suffix (x : BT) : baseOf x ++ suffixOf x = x := by
  unfold baseOf suffixOf
  split
  · simp
  · rw [List.take_append_drop]
end Go.Proofs.YtfdlcmjjnoapfaaGreatDoor
