/-
  How long the answers of chapter 10 are, in plain words. No program.
-/
import Derived.Test.YtfdlcmjjnoapfaaGreatDoorNC
namespace Go.Proofs.YtfdlcmjjnoapfaaGreatDoor

def wt : List BT → Nat
  | [] => 0
  | x :: r => x.length + 1 + wt r
theorem wt_append : ∀ a b : List BT, wt (a ++ b) = wt a + wt b
  | [], b => by simp [wt]
  | x :: r, b => by rw [List.cons_append, wt, wt, wt_append r b]; omega
theorem wt_pieces (p : UInt8 → Bool) : ∀ l : BT, wt (pieces p l) = l.length + 1
  | [] => by simp [pieces, wt]
  | c :: r => by
    have ih := wt_pieces p r
    unfold pieces
    split
    · simp only [wt, List.length_nil, List.length_cons]; omega
    · split
      · next q qs h => rw [h] at ih; simp only [wt, List.length_cons] at ih ⊢; omega
      · next h => exact absurd h (pieces_ne p r)
theorem wt_filter (p : BT → Bool) : ∀ l : List BT, wt (l.filter p) ≤ wt l
  | [] => Nat.le_refl _
  | x :: r => by
    have := wt_filter p r
    rw [List.filter_cons]
    split <;> simp only [wt] <;> omega
theorem wt_words (t : BT) : wt (wordsT t) ≤ t.length + 1 := by
  have := wt_filter (fun x => decide (x ≠ [])) (pieces blankB t)
  rw [wt_pieces] at this
  exact this
theorem wt_two : ∀ l : List BT, (∀ x ∈ l, x ≠ []) → 2 * l.length ≤ wt l
  | [], _ => by simp [wt]
  | x :: r, h => by
    have := wt_two r (fun y hy => h y (List.mem_cons_of_mem _ hy))
    have hx : 0 < x.length := List.length_pos_iff.2 (h x (by simp))
    simp only [wt, List.length_cons]
    omega
theorem count_words (t : BT) : 2 * (wordsT t).length ≤ t.length + 1 := Nat.le_trans (wt_two _ fun _ hx => (words_memT hx).1.1) (wt_words t)
theorem wt_map (f : BT → BT) (c : Nat) : ∀ l : List BT, (∀ x ∈ l, (f x).length ≤ x.length + c) → wt (l.map f) ≤ wt l + c * l.length
  | [], _ => by simp [wt]
  | x :: r, h => by
    have h1 := wt_map f c r (fun y hy => h y (List.mem_cons_of_mem _ hy))
    have h2 := h x (by simp)
    simp only [wt, List.map_cons, List.length_cons, Nat.mul_add, Nat.mul_one]
    omega
theorem wt_ins (x : BT) : ∀ l : List BT, wt (insT x l) ≤ wt l + (x.length + 1)
  | [] => by simp [insT, wt]
  | y :: r => by
    have := wt_ins x r
    unfold insT
    split
    · omega
    · split
      · simp only [wt]; omega
      · simp only [wt]; omega
theorem wt_sort_go : ∀ (w l : List BT), wt (w.foldl (fun l x => insT x l) l) ≤ wt w + wt l
  | [], l => by simp [wt]
  | x :: r, l => by
    have h1 := wt_sort_go r (insT x l)
    have h2 := wt_ins x l
    simp only [wt, List.foldl_cons]
    omega
theorem wt_sort (w : List BT) : wt (sortT w) ≤ wt w := by
  have := wt_sort_go w []
  simpa [wt, sortT] using this
theorem wt_take : ∀ (l : List BT) (k : Nat), wt (l.take k) ≤ wt l
  | [], k => by simp
  | x :: r, 0 => by simp [wt]
  | x :: r, k + 1 => by have := wt_take r k; simp only [List.take_succ_cons, wt]; omega
theorem wt_drop : ∀ (l : List BT) (k : Nat), wt (l.drop k) ≤ wt l
  | [], k => by simp
  | x :: r, 0 => by simp
  | x :: r, k + 1 => by have := wt_drop r k; simp only [List.drop_succ_cons, wt]; omega
theorem wt_zip : ∀ a b : List BT, wt (zipT a b) ≤ wt a + wt b
  | [], b => by unfold zipT; simp [wt]
  | x :: r, [] => by unfold zipT; simp [wt]
  | x :: r, y :: s => by
    have := wt_zip r s
    unfold zipT
    simp only [wt, List.length_append]
    omega
theorem wt_join : ∀ l : List BT, (joinT l).length ≤ wt l - 1
  | [] => by simp [joinT, Lib.join, wt]
  | [x] => by
    have : joinT [x] = x := Lib.join_one x [32]
    rw [this]; simp [wt]
  | x :: y :: r => by
    have ih := wt_join (y :: r)
    have : joinT (x :: y :: r) = x ++ [32] ++ joinT (y :: r) := join_cons_ne (by simp) [32]
    rw [this, List.length_append, List.length_append]
    simp only [wt, List.length_cons, List.length_nil] at ih ⊢
    omega
theorem substL_len (a b x : BT) : (substL a b x).length ≤ x.length + b.length := by
  have h1 := match_len a x
  unfold substL
  split
  · unfold fillL
    split
    · next ho =>
      have := open_lens ho
      rw [List.length_append, List.length_append]
      omega
    · omega
  · omega
theorem wt_list (n a b t : BT) : wt (listT n a b t) ≤ wt (wordsT t) + wt (wordsT a) + (a.length + b.length + 2) * (wordsT t).length := by
  have hmap : ∀ (f : BT → BT), (∀ x, (f x).length ≤ x.length + (a.length + b.length + 2)) → wt ((wordsT t).map f) ≤ wt (wordsT t) + wt (wordsT a) + (a.length + b.length + 2) * (wordsT t).length := fun f hf => by
    have := wt_map f (a.length + b.length + 2) (wordsT t) (fun x _ => hf x)
    omega
  have hne : ∀ l : List BT, wt l ≤ wt (wordsT t) + wt (wordsT a) + (a.length + b.length + 2) * (wordsT t).length → wt (neT l) ≤ wt (wordsT t) + wt (wordsT a) + (a.length + b.length + 2) * (wordsT t).length := fun l h => Nat.le_trans (wt_filter _ l) h
  have hsub : ∀ l : List BT, wt l ≤ wt (wordsT t) → wt l ≤ wt (wordsT t) + wt (wordsT a) + (a.length + b.length + 2) * (wordsT t).length := fun l h => by omega
  unfold listT
  by_cases c0 : n = nPatsubst
  · rw [if_pos c0]
    exact hmap _ fun x => by have := substL_len a b x; omega
  rw [if_neg c0]
  by_cases c1 : n = nFilter
  · rw [if_pos c1]; exact hsub _ (wt_filter _ _)
  rw [if_neg c1]
  by_cases c2 : n = nFilterOut
  · rw [if_pos c2]; exact hsub _ (wt_filter _ _)
  rw [if_neg c2]
  by_cases c3 : n = nSort
  · rw [if_pos c3]; exact hsub _ (wt_sort _)
  rw [if_neg c3]
  by_cases c4 : n = nFirstword
  · rw [if_pos c4]; exact hsub _ (wt_take _ _)
  rw [if_neg c4]
  by_cases c5 : n = nLastword
  · rw [if_pos c5]; exact hsub _ (wt_drop _ _)
  rw [if_neg c5]
  by_cases c6 : n = nDir
  · rw [if_pos c6]
    refine hmap _ fun x => ?_
    unfold dirOf
    split
    · simp only [List.length_cons, List.length_nil]; omega
    · rw [List.length_take]; omega
  rw [if_neg c6]
  by_cases c7 : n = nNotdir
  · rw [if_pos c7]
    refine hne _ (hmap _ fun x => ?_)
    unfold notdirOf
    rw [List.length_drop]; omega
  rw [if_neg c7]
  by_cases c8 : n = nSuffix
  · rw [if_pos c8]
    refine hne _ (hmap _ fun x => ?_)
    unfold suffixOf
    split
    · simp
    · rw [List.length_drop]; omega
  rw [if_neg c8]
  by_cases c9 : n = nBasename
  · rw [if_pos c9]
    refine hne _ (hmap _ fun x => ?_)
    unfold baseOf
    split
    · omega
    · rw [List.length_take]; omega
  rw [if_neg c9]
  by_cases c10 : n = nAddsuffix
  · rw [if_pos c10]
    exact hmap _ fun x => by rw [List.length_append]; omega
  rw [if_neg c10]
  by_cases c11 : n = nAddprefix
  · rw [if_pos c11]
    exact hmap _ fun x => by rw [List.length_append]; omega
  rw [if_neg c11]
  by_cases c12 : n = nJoin
  · rw [if_pos c12]
    have := wt_zip (wordsT a) (wordsT t)
    omega
  rw [if_neg c12]
  exact hsub _ (Nat.le_refl _)
theorem fin_ok {s : BT} (h : s.length ≤ 4000) : finT (some s) = (s, 0) := by unfold finT; simp only; rw [if_pos h]

/-- A function with as many arguments as it has, all one short text, answers. -/
theorem rep_get (k : Nat) (S : BT) (i : Nat) (h : i < k) : argT (List.replicate k S) i = S := by
  unfold argT List.getD
  rw [List.getElem?_replicate, if_pos h]
  rfl
theorem errs_ok (N S : BT) (k : Nat) (hk : (k : Int) = manyOf N) (h0 : manyOf N ≠ 0) (hS : S.length ≤ 50) (hw : N ≠ nWord) (hl : N ≠ nWordlist) : (callT N (List.replicate k S)).2 = 0 := by
  have hV : callT N (List.replicate k S) = finT (ansT N (List.replicate k S)) := by
    unfold callT
    rw [if_neg h0, if_pos (by rw [List.length_replicate]; exact hk)]
  have hlast : ∀ m, k = m + 1 → lastT (List.replicate k S) = S := fun m hm => by
    unfold lastT List.getD
    rw [List.length_replicate, List.getElem?_replicate, if_pos (by omega)]
    rfl
  rw [hV]
  unfold ansT
  by_cases c0 : N = nSubst
  · rw [if_pos c0]
    rw [c0, show manyOf nSubst = 3 by decide] at hk
    rw [rep_get _ _ _ (by omega), rep_get _ _ _ (by omega), hlast 2 (by omega)]
    have e : subT S S S = S := by
      unfold subT
      by_cases hS0 : S = []
      · rw [if_pos hS0]
      · rw [if_neg hS0, sub_hit hS0 (List.isPrefixOf_iff_prefix.2 (List.prefix_refl _)), List.drop_length, sub_done, List.append_nil]
    rw [e, fin_ok (by omega)]
  rw [if_neg c0]
  by_cases c1 : N = nFindstring
  · rw [if_pos c1]
    rw [c1, show manyOf nFindstring = 2 by decide] at hk
    rw [rep_get _ _ _ (by omega)]
    split
    · rw [fin_ok (by omega)]
    · rw [fin_ok (by simp)]
  rw [if_neg c1]
  by_cases c2 : N = nWords
  · rw [if_pos c2, fin_ok]
    rw [c2, show manyOf nWords = 1 by decide] at hk
    rw [hlast 0 (by omega)]
    have := dec_len (wordsT S).length (by have := words_few S; omega)
    omega
  rw [if_neg c2, if_neg hw, if_neg hl, fin_ok]
  have hk1 : 1 ≤ k := by
    rcases Nat.eq_zero_or_pos k with h | h
    · rw [h] at hk; exact absurd hk.symm h0
    · exact h
  rw [hlast (k - 1) (by omega)]
  have ha : (argT (List.replicate k S) 0).length ≤ 50 := by rw [rep_get _ _ _ (by omega)]; exact hS
  have hb : (argT (List.replicate k S) 1).length ≤ 50 := by
    by_cases h : 1 < k
    · rw [rep_get _ _ _ h]; exact hS
    · unfold argT List.getD
      rw [List.getElem?_replicate, if_neg h]
      simp
  generalize argT (List.replicate k S) 0 = a at *
  generalize argT (List.replicate k S) 1 = b at *
  have h1 := wt_list N a b S
  have h2 := wt_join (listT N a b S)
  have h3 := wt_words S
  have h4 := wt_words a
  have h5 := count_words S
  have h6 : (a.length + b.length + 2) * (wordsT S).length ≤ 102 * 25 := Nat.mul_le_mul (by omega) (by omega)
  omega
end Go.Proofs.YtfdlcmjjnoapfaaGreatDoor
