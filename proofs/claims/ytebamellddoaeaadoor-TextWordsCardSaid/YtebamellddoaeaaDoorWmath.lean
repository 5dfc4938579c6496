/-
  Of the words of a text: each has a byte and no blank; put together and cut again they are the same; the words of two texts with a blank between.
-/
import Derived.Test.YtebamellddoaeaaDoorTrim
import Derived.Test.YtebamellddoaeaaDoorJoin
namespace Go.Proofs.YtebamellddoaeaaDoor
open Go.RowKit Go.Shelf

theorem pieces_mem (p : UInt8 → Bool) (l : List UInt8) : ∀ x ∈ pieces p l, x.length ≤ l.length ∧ ∀ c ∈ x, p c = false := by
  induction l with
  | nil => intro x hx; simp [pieces] at hx; subst hx; simp
  | cons c r ih =>
    intro x hx
    simp only [pieces] at hx
    split at hx
    · rcases List.mem_cons.1 hx with rfl | hx
      · simp
      · have := ih x hx
        exact ⟨by simp; omega, this.2⟩
    · rename_i hc
      have hc' : p c = false := by simpa using hc
      split at hx
      · rename_i q qs h
        rw [h] at ih
        rcases List.mem_cons.1 hx with rfl | hx
        · have := ih q (by simp)
          refine ⟨by simp; omega, fun d hd => ?_⟩
          rcases List.mem_cons.1 hd with rfl | hd
          · exact hc'
          · exact this.2 d hd
        · have := ih x (by simp [hx])
          exact ⟨by simp; omega, this.2⟩
      · simp only [List.mem_singleton] at hx
        subst hx
        refine ⟨by simp, fun d hd => ?_⟩
        simp only [List.mem_singleton] at hd
        subst hd
        exact hc'

/-- A text that has a byte, and no blank. -/
def aWord (x : ByteArray) : Prop := x.toList.isEmpty = false ∧ ∀ c ∈ x.data.toList, blankB c = false

theorem words_mem (l : List UInt8) (x : ByteArray) (hx : x ∈ wordsOf l) : aWord x ∧ x.size ≤ l.length := by
  unfold wordsOf at hx
  obtain ⟨h1, h2⟩ := List.mem_filter.1 hx
  obtain ⟨p, hp, rfl⟩ := List.mem_map.1 h1
  have := pieces_mem blankB l p hp
  have e : (txt p).data.toList = p := by rw [← Lib.toList_data, txt_toL]
  refine ⟨⟨by simpa [isWord] using h2, fun c hc => this.2 c (by rwa [e] at hc)⟩, ?_⟩
  rw [← size_list, e]
  exact this.1

theorem word_words {x : ByteArray} (h : aWord x) : wordsOf x.data.toList = [x] := by
  unfold wordsOf
  rw [pieces_none blankB _ h.2]
  have : isWord x = true := by unfold isWord; rw [h.1]; rfl
  simp [txt_toList, this]

theorem cutL_plain (l : List UInt8) (h : ∀ c ∈ l, blankB c = false) : cutL l = l := by
  cases l with
  | nil => rfl
  | cons c r => simp [cutL, List.dropWhile, h c (by simp)]
theorem cutR_plain (l : List UInt8) (h : ∀ c ∈ l, blankB c = false) : cutR l = l := by
  have := cutL_plain l.reverse (fun c hc => h c (by simpa using hc))
  unfold cutL at this
  unfold cutR
  rw [this, List.reverse_reverse]
theorem word_trim {x : ByteArray} (h : aWord x) : txt (trimOf x.data.toList) = x := by
  unfold trimOf
  rw [cutL_plain _ h.2, cutR_plain _ h.2, txt_toList]

theorem drop_twice (p : UInt8 → Bool) (l : List UInt8) : (l.dropWhile p).dropWhile p = l.dropWhile p := by
  induction l with
  | nil => rfl
  | cons c r ih =>
    by_cases hc : p c = true
    · simp [List.dropWhile, hc, ih]
    · simp [List.dropWhile, hc]
theorem trim_twice (l : List UInt8) : trimOf (trimOf l) = trimOf l := by
  have eL : cutL (cutL l) = cutL l := drop_twice _ _
  have eR : cutR (cutR (cutL l)) = cutR (cutL l) := by
    unfold cutR
    rw [List.reverse_reverse, drop_twice]
  unfold trimOf
  rw [cut_swap, eL, eR]

theorem pieces_sep (p : UInt8 → Bool) (a : List UInt8) (c : UInt8) (b : List UInt8) (hc : p c = true) : pieces p (a ++ c :: b) = pieces p a ++ pieces p b := by
  induction a with
  | nil => simp [pieces, hc]
  | cons x a ih =>
    simp only [List.cons_append, pieces, ih]
    split
    · simp
    · cases h : pieces p a with
      | nil => exact absurd h (pieces_ne p a)
      | cons y z => simp
theorem pieces_joined : ∀ (q : List UInt8) (qs : List (List UInt8)), (∀ x ∈ q :: qs, ∀ c ∈ x, blankB c = false) → pieces blankB (Lib.join (q :: qs) [32]) = q :: qs
  | q, [], h => by rw [Lib.join_one, pieces_none blankB q (h q (by simp))]
  | q, y :: r, h => by
    have ih := pieces_joined y r (fun x hx => h x (by simp at hx ⊢; exact .inr hx))
    have e : Lib.join (q :: y :: r) [32] = q ++ 32 :: Lib.join (y :: r) [32] := by
      rw [Lib.join_cons, Lib.join_cons]; simp [Lib.joinTail]
    rw [e, pieces_sep blankB q 32 _ rfl, ih, pieces_none blankB q (h q (by simp))]
    rfl

theorem words_apart (a b : List UInt8) : wordsOf (a ++ 32 :: b) = wordsOf a ++ wordsOf b := by
  unfold wordsOf
  rw [pieces_sep blankB a 32 b rfl, List.map_append, List.filter_append]

theorem words_joined (xs : List ByteArray) (h : ∀ x ∈ xs, aWord x) : wordsOf (joinOf xs) = xs := by
  have em : (xs.map (·.data.toList)).map txt = xs := by
    rw [List.map_map]
    conv => rhs; rw [← List.map_id xs]
    exact List.map_congr_left fun x _ => txt_toList x
  have hf : xs.filter isWord = xs := by
    rw [List.filter_eq_self]
    intro x hx
    unfold isWord
    rw [(h x hx).1]; rfl
  cases xs with
  | nil => simp [joinOf, Lib.join_nil, wordsOf, pieces, isWord, txt_toL]
  | cons x r =>
    have hb : ∀ y ∈ x.data.toList :: r.map (·.data.toList), ∀ c ∈ y, blankB c = false := by
      intro y hy c hc
      rcases List.mem_cons.1 hy with rfl | hy
      · exact (h x (by simp)).2 c hc
      · obtain ⟨z, hz, rfl⟩ := List.mem_map.1 hy
        exact (h z (by simp [hz])).2 c hc
    unfold joinOf wordsOf
    rw [List.map_cons, pieces_joined _ _ hb]
    rw [List.map_cons] at em
    rw [em, hf]

theorem joined_len (m : Nat) (xs : List ByteArray) (h : ∀ x ∈ xs, x.size ≤ m) : (joinOf xs).length ≤ (m + 1) * xs.length := by
  have hs : ∀ (l : List ByteArray) (x : ByteArray), joinOf (l ++ [x]) = if l = [] then x.data.toList else joinOf l ++ [32] ++ x.data.toList := by
    intro l x
    cases l with
    | nil => simp [joinOf, Lib.join_one]
    | cons a r =>
      rw [if_neg (by simp)]
      unfold joinOf
      rw [List.cons_append, List.map_cons, List.map_cons, Lib.join_cons, Lib.join_cons, List.map_append]
      simp [Lib.joinTail]
  have main : ∀ k, k ≤ xs.length → (joinOf (xs.take k)).length ≤ (m + 1) * k := by
    intro k
    induction k with
    | zero => intro _; simp [joinOf, Lib.join_nil]
    | succ k ih =>
      intro hk
      have h1 := ih (by omega)
      have h2 := h xs[k] (List.getElem_mem hk)
      rw [List.take_succ_eq_append_getElem hk, hs, Nat.mul_succ]
      have h3 := size_list xs[k]
      split
      · rw [h3]; omega
      · simp only [List.length_append, List.length_cons, List.length_nil]; omega
  have := main xs.length (Nat.le_refl _)
  rwa [List.take_length] at this

end Go.Proofs.YtebamellddoaeaaDoor
