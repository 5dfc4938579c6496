/-
  Chapter 8's lines, taken one behind the other: what a loop over them keeps; no program. No condition.
-/
import Derived.Test.YtldddecaeloohaaDoorEM
namespace Go.Proofs.YtldddecaeloohaaDoor

/-- Ahead of line number at + 1 the lines out were told, and none of them is wrong. -/
structure Sofar (ls : List BS) (k : Nat) (acc : List Item) : Prop where
  items : itemsL 1 ls = acc ++ itemsL (k + 1) (ls.drop k)
  fine : scanL 0 acc = none
theorem Sofar.start (ls : List BS) : Sofar ls 0 [] := ⟨rfl, rfl⟩
theorem drop_at {ls : List BS} {k : Nat} {a : BS} (h : ls[k]? = some a) : ls.drop k = a :: ls.drop (k + 1) := by
  have hk := (List.getElem?_eq_some_iff.1 h).1
  rw [List.drop_eq_getElem_cons hk, (List.getElem?_eq_some_iff.1 h).2]
theorem Sofar.len {ls : List BS} {k : Nat} {acc : List Item} (h : Sofar ls k acc) : acc.length ≤ 300 := by
  have := (scan_none h.fine).2
  by_cases hn : acc = []
  · rw [hn]; simp
  · have := this hn; omega
/-- The end. -/
theorem Sofar.done {s : BS} {k : Nat} {acc : List Item} (h : Sofar (linesL s) k acc) (hk : (linesL s).length ≤ k) : lexOf s = (acc, 0, 0) := by
  have e : itemsL 1 (linesL s) = acc := by rw [h.items, List.drop_eq_nil_of_le hk, items_nil, List.append_nil]
  rw [lex_ok (by rw [e]; exact h.fine), e]
section
variable {ls : List BS} {k : Nat} {acc : List Item} {a : BS}
/-- A line that says nothing. -/
theorem Sofar.skip (h : Sofar ls k acc) (ha : ls[k]? = some a) (ht : textL (tabL a) (glue a (ls.drop (k + 1))).1 = []) : Sofar ls (k + 1 + (glue a (ls.drop (k + 1))).2) acc := by
  refine ⟨?_, h.fine⟩
  rw [h.items, drop_at ha, items_none ht, List.drop_drop]
  congr 2
  omega
/-- A line that is told. -/
theorem Sofar.next (h : Sofar ls k acc) (ha : ls[k]? = some a) (ht : textL (tabL a) (glue a (ls.drop (k + 1))).1 ≠ []) (hl : (textL (tabL a) (glue a (ls.drop (k + 1))).1).length ≤ 1000) (hn : acc.length < 300) :
    Sofar ls (k + 1 + (glue a (ls.drop (k + 1))).2) (acc ++ [(k + 1, tabL a, textL (tabL a) (glue a (ls.drop (k + 1))).1)]) := by
  refine ⟨?_, ?_⟩
  · rw [h.items, drop_at ha, items_some ht, List.drop_drop, List.append_assoc]
    congr 1
    rw [List.singleton_append]
    congr 2
    omega
  · rw [scan_app _ _ _ h.fine]
    unfold scanL
    rw [if_neg (by simp; omega)]
    rfl
theorem scan_stop : ∀ (l r : List Item) (m n : Nat), scanL m l = some n → scanL m (l ++ r) = some n
  | [], _, _, _, h => by cases h
  | x :: l, r, m, n, h => by
    unfold scanL at h
    rw [List.cons_append, scanL]
    split at h
    · rename_i hx; rw [if_pos hx]; exact h
    · rename_i hx; rw [if_neg hx]; exact scan_stop l r (m + 1) n h
/-- A line that is wrong. -/
theorem Sofar.wrong {s : BS} (h : Sofar (linesL s) k acc) (ha : (linesL s)[k]? = some a) (ht : textL (tabL a) (glue a ((linesL s).drop (k + 1))).1 ≠ []) (hb : 1000 < (textL (tabL a) (glue a ((linesL s).drop (k + 1))).1).length ∨ 300 ≤ acc.length) :
    lexOf s = ([], 3, k + 1) := by
  refine lex_err ?_
  rw [h.items, drop_at ha, items_some ht, scan_app _ _ _ h.fine]
  unfold scanL
  rw [if_pos (by simpa using hb)]
end
/-- Lines put on, one behind the other: what was put together so far, and how many. -/
structure Glued (a : BS) (r : List BS) (x : BS) (j : Nat) : Prop where
  le : j ≤ r.length
  text : (glue a r).1 = (glue x (r.drop j)).1
  many : (glue a r).2 = j + (glue x (r.drop j)).2
theorem Glued.start (a : BS) (r : List BS) : Glued a r a 0 := ⟨Nat.zero_le _, rfl, by simp⟩
theorem Glued.next {a x b : BS} {r : List BS} {j : Nat} (h : Glued a r x j) (hb : r[j]? = some b) (ho : oddB x = true) : Glued a r (joinL x b) (j + 1) := by
  have hj := (List.getElem?_eq_some_iff.1 hb).1
  have e : r.drop j = b :: r.drop (j + 1) := drop_at hb
  refine ⟨hj, ?_, ?_⟩
  · rw [h.text, e, glue_odd ho]
  · rw [h.many, e, glue_odd ho]
    show j + ((glue (joinL x b) (r.drop (j + 1))).2 + 1) = _
    omega
/-- It does not go on. -/
theorem Glued.even {a x : BS} {r : List BS} {j : Nat} (h : Glued a r x j) (ho : oddB x = false) : glue a r = (x, j) := by
  have h1 := h.text
  have h2 := h.many
  rw [glue_even ho] at h1 h2
  exact Prod.ext h1 h2
/-- It goes on, and there is no line more. -/
theorem Glued.last {a x : BS} {r : List BS} {j : Nat} (h : Glued a r x j) (ho : oddB x = true) (hj : r.length ≤ j) : glue a r = (x.dropLast, j) := by
  have h1 := h.text
  have h2 := h.many
  rw [List.drop_eq_nil_of_le hj, glue_last ho] at h1 h2
  exact Prod.ext h1 h2

end Go.Proofs.YtldddecaeloohaaDoor
