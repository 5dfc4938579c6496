/-
  What follows of chapter 8, in plain words: a comment between, lines put together, recipes' lines, as many as there may be; no program. No condition.
-/
import Derived.Test.YtmonbnmjbgdkoaaDoorEM
namespace Go.Proofs.YtmonbnmjbgdkoaaDoor

theorem clean_odd {P : List BS} {s : BS} (hs : ∀ c ∈ s, c ≠ 92) (hP : ∀ l ∈ P, ∀ c ∈ l, c ∈ s) : ∀ l ∈ P, oddB l = false := fun l hl => odd_none fun c hc => hs c (hP l hl c hc)
theorem text_nil (b : Bool) {l : BS} (h : trimOf (if b then l else bareL l) = []) : textL b l = [] := h
/-- A comment, and a line of a blank, say nothing. -/
theorem items_still (c : BS) (hc : ∀ x ∈ c, x ≠ 92) (no : Nat) : itemsL no [35 :: 32 :: c, [32]] = [] := by
  have h1 : oddB (35 :: 32 :: c) = false := odd_none fun x hx => by
    rcases List.mem_cons.1 hx with rfl | hx
    · decide
    · rcases List.mem_cons.1 hx with rfl | hx
      · decide
      · exact hc x hx
  have h2 : oddB [32] = false := by decide
  have t1 : textL (tabL (35 :: 32 :: c)) (35 :: 32 :: c) = [] := by
    unfold textL
    rw [show tabL (35 :: 32 :: c) = false from rfl]
    simp only [Bool.false_eq_true, if_false, bare_cons, if_true]
    rfl
  have t2 : textL (tabL [32]) [32] = [] := by decide
  rw [items_none (by rw [glue_even h1]; exact t1), glue_even h1]
  simp only [List.drop_zero, Nat.add_zero]
  rw [items_none (by rw [glue_even h2]; exact t2), glue_even h2]
  simp only [List.drop_zero, Nat.add_zero]
  exact items_nil _
theorem between_law {s t c : BS} (hs : ∀ x ∈ s, x ≠ 92) (hc : ∀ x ∈ c, x ≠ 10 ∧ x ≠ 92) :
    (itemsL 1 (linesL (s ++ 10 :: t))).map Prod.snd = (itemsL 1 (linesL (s ++ 10 :: 35 :: 32 :: (c ++ 10 :: 32 :: 10 :: t)))).map Prod.snd := by
  have hp := clean_odd hs (pieces_of nlB s)
  have e : linesL (35 :: 32 :: (c ++ 10 :: 32 :: 10 :: t)) = [35 :: 32 :: c, [32]] ++ linesL t := by
    have h1 : linesL ((35 :: 32 :: c) ++ 10 :: (32 :: 10 :: t)) = pieces nlB (35 :: 32 :: c) ++ linesL (32 :: 10 :: t) := lines_app _ _
    have h2 : linesL ([32] ++ 10 :: t) = pieces nlB [32] ++ linesL t := lines_app _ _
    have h3 : pieces nlB (35 :: 32 :: c) = [35 :: 32 :: c] := pieces_one fun x hx => by
      rcases List.mem_cons.1 hx with rfl | hx
      · decide
      · rcases List.mem_cons.1 hx with rfl | hx
        · decide
        · exact (hc x hx).1
    have h4 : pieces nlB [32] = [[32]] := rfl
    rw [h3] at h1
    rw [h4] at h2
    rw [show (35 :: 32 :: (c ++ 10 :: 32 :: 10 :: t) : BS) = (35 :: 32 :: c) ++ 10 :: (32 :: 10 :: t) by simp, h1, show (32 :: 10 :: t : BS) = [32] ++ 10 :: t by simp, h2]
    simp
  have ho : ∀ l ∈ [35 :: 32 :: c, [32]], oddB l = false := by
    intro l hl
    simp only [List.mem_cons, List.not_mem_nil, or_false] at hl
    rcases hl with rfl | rfl
    · exact odd_none fun x hx => by
        rcases List.mem_cons.1 hx with rfl | hx
        · decide
        · rcases List.mem_cons.1 hx with rfl | hx
          · decide
          · exact (hc x hx).2
    · decide
  rw [lines_app, lines_app, items_app _ _ 1 hp, items_app _ _ 1 hp, e, items_app _ _ _ ho, items_still c (fun x hx => (hc x hx).2)]
  rw [List.map_append, List.map_append, List.nil_append, items_shift _ (linesL t) _ _ (Nat.le_refl _)]

/-! ### lines put together -/
theorem joins_law {a b s : BS} (ha : ∀ x ∈ a, x ≠ 10 ∧ x ≠ 92) (hb : ∀ x ∈ b, x ≠ 10 ∧ x ≠ 92) (ha0 : a ≠ []) (ha1 : ∀ x, a.getLast? = some x → blankB x = false) (hb1 : ∀ x, b.head? = some x → blankB x = false) :
    (itemsL 1 (linesL (a ++ 32 :: 9 :: 92 :: 10 :: 9 :: 32 :: (b ++ 10 :: s)))).map Prod.snd = (itemsL 1 (linesL (a ++ 32 :: (b ++ 10 :: s)))).map Prod.snd := by
  have e1 : linesL (a ++ 32 :: 9 :: 92 :: 10 :: 9 :: 32 :: (b ++ 10 :: s)) = (a ++ [32, 9, 92]) :: (9 :: 32 :: b) :: linesL s := by
    have h1 : linesL ((a ++ [32, 9, 92]) ++ 10 :: (9 :: 32 :: (b ++ 10 :: s))) = pieces nlB (a ++ [32, 9, 92]) ++ linesL (9 :: 32 :: (b ++ 10 :: s)) := lines_app _ _
    have h2 : linesL ((9 :: 32 :: b) ++ 10 :: s) = pieces nlB (9 :: 32 :: b) ++ linesL s := lines_app _ _
    have h3 : pieces nlB (a ++ [32, 9, 92]) = [a ++ [32, 9, 92]] := pieces_one fun x hx => by
      rcases List.mem_append.1 hx with hx | hx
      · exact (ha x hx).1
      · simp only [List.mem_cons, List.not_mem_nil, or_false] at hx
        rcases hx with rfl | rfl | rfl <;> decide
    have h4 : pieces nlB (9 :: 32 :: b) = [9 :: 32 :: b] := pieces_one fun x hx => by
      rcases List.mem_cons.1 hx with rfl | hx
      · decide
      · rcases List.mem_cons.1 hx with rfl | hx
        · decide
        · exact (hb x hx).1
    rw [h3] at h1
    rw [h4] at h2
    rw [show (a ++ 32 :: 9 :: 92 :: 10 :: 9 :: 32 :: (b ++ 10 :: s) : BS) = (a ++ [32, 9, 92]) ++ 10 :: (9 :: 32 :: (b ++ 10 :: s)) by simp, h1, show (9 :: 32 :: (b ++ 10 :: s) : BS) = (9 :: 32 :: b) ++ 10 :: s by simp, h2]
    rfl
  have e2 : linesL (a ++ 32 :: (b ++ 10 :: s)) = (a ++ 32 :: b) :: linesL s := by
    have h1 : linesL ((a ++ 32 :: b) ++ 10 :: s) = pieces nlB (a ++ 32 :: b) ++ linesL s := lines_app _ _
    have h3 : pieces nlB (a ++ 32 :: b) = [a ++ 32 :: b] := pieces_one fun x hx => by
      rcases List.mem_append.1 hx with hx | hx
      · exact (ha x hx).1
      · rcases List.mem_cons.1 hx with rfl | hx
        · decide
        · exact (hb x hx).1
    rw [h3] at h1
    rw [show (a ++ 32 :: (b ++ 10 :: s) : BS) = (a ++ 32 :: b) ++ 10 :: s by simp, h1]
    rfl
  have ho : oddB (a ++ 32 :: b) = false := odd_none fun x hx => by
    rcases List.mem_append.1 hx with hx | hx
    · exact (ha x hx).2
    · rcases List.mem_cons.1 hx with rfl | hx
      · decide
      · exact (hb x hx).2
  have ho1 : oddB (a ++ [32, 9, 92]) = true := by
    have := odd_one (l := a ++ [32]) 9 (by decide)
    rwa [List.append_assoc] at this
  have hj : joinL (a ++ [32, 9, 92]) (9 :: 32 :: b) = a ++ 32 :: b := by
    unfold joinL
    have h1 : (a ++ [32, 9, 92]).dropLast = a ++ [32, 9] := by
      rw [show a ++ [32, 9, 92] = (a ++ [32, 9]) ++ [92] by simp, List.dropLast_concat]
    have h2 : cutR (a ++ [32, 9]) = a := by
      rw [show a ++ [32, 9] = (a ++ [32]) ++ [9] by simp, cutR_snoc, show blankB 9 = true from rfl, if_pos rfl, cutR_snoc, show blankB 32 = true from rfl, if_pos rfl, cutR_id ha1]
    have h3 : cutL (9 :: 32 :: b) = b := by
      rw [cutL_cons, show blankB 9 = true from rfl, if_pos rfl, cutL_cons, show blankB 32 = true from rfl, if_pos rfl, cutL_id hb1]
    rw [h1, h2, h3]
  have hg1 : glue (a ++ [32, 9, 92]) ((9 :: 32 :: b) :: linesL s) = (a ++ 32 :: b, 1) := by
    rw [glue_odd ho1, hj, glue_even ho]
  have hg2 := glue_even ho (linesL s)
  have ht : tabL (a ++ [32, 9, 92]) = tabL (a ++ 32 :: b) := by
    cases a with
    | nil => exact absurd rfl ha0
    | cons x r => rfl
  rw [e1, e2]
  by_cases hx : textL (tabL (a ++ 32 :: b)) (a ++ 32 :: b) = []
  · rw [items_none (by rw [hg1, ht]; exact hx), items_none (by rw [hg2]; exact hx), hg1, hg2]
    exact items_shift _ (linesL s) _ _ (Nat.le_refl _)
  · rw [items_some (by rw [hg1, ht]; exact hx), items_some (by rw [hg2]; exact hx), hg1, hg2, List.map_cons, List.map_cons, ht]
    congr 1
    exact items_shift _ (linesL s) _ _ (Nat.le_refl _)

/-! ### lines of recipes -/
theorem bare_mid {s : BS} (h : ∀ x ∈ s, x ≠ 35) (r : BS) : bareL (s ++ 35 :: r) = s := by
  induction s with
  | nil => rw [List.nil_append, bare_cons, if_pos rfl]
  | cons x s ih => rw [List.cons_append, bare_cons, if_neg (h x (by simp)), ih fun y hy => h y (by simp [hy])]
theorem tabs_law {s c : BS} (hs : ∀ x ∈ s, x ≠ 10 ∧ x ≠ 92 ∧ x ≠ 35) (hc : ∀ x ∈ c, x ≠ 10 ∧ x ≠ 92) (h0 : s ≠ []) (ht : Tight s) (hl : s.length ≤ 300) (hlc : c.length ≤ 300) :
    lexOf (9 :: (s ++ 32 :: 35 :: (c ++ 10 :: (s ++ 32 :: 35 :: (c ++ [10]))))) = ([(1, true, s ++ 32 :: 35 :: cutR c), (2, false, s)], 0, 0) := by
  have c1 : ∀ x ∈ s ++ 32 :: 35 :: c, x ≠ 10 ∧ x ≠ 92 := fun x hx => by
    rcases List.mem_append.1 hx with hx | hx
    · exact ⟨(hs x hx).1, (hs x hx).2.1⟩
    · simp only [List.mem_cons] at hx
      rcases hx with rfl | rfl | hx
      · decide
      · decide
      · exact hc x hx
  have c2 : ∀ x ∈ 9 :: (s ++ 32 :: 35 :: c), x ≠ 10 ∧ x ≠ 92 := fun x hx => by
    rcases List.mem_cons.1 hx with rfl | hx
    · decide
    · exact c1 x hx
  have e : linesL (9 :: (s ++ 32 :: 35 :: (c ++ 10 :: (s ++ 32 :: 35 :: (c ++ [10]))))) = [9 :: (s ++ 32 :: 35 :: c), s ++ 32 :: 35 :: c] := by
    have h1 := lines_app (9 :: (s ++ 32 :: 35 :: c)) (s ++ 32 :: 35 :: (c ++ [10]))
    have h2 := lines_app (s ++ 32 :: 35 :: c) []
    rw [pieces_one fun x hx => (c2 x hx).1] at h1
    rw [pieces_one fun x hx => (c1 x hx).1] at h2
    rw [show (9 :: (s ++ 32 :: 35 :: (c ++ 10 :: (s ++ 32 :: 35 :: (c ++ [10])))) : BS) = (9 :: (s ++ 32 :: 35 :: c)) ++ 10 :: (s ++ 32 :: 35 :: (c ++ [10])) by simp, h1, show (s ++ 32 :: 35 :: (c ++ [10]) : BS) = (s ++ 32 :: 35 :: c) ++ 10 :: [] by simp, h2, lines_none]
    rfl
  have o1 : oddB (s ++ 32 :: 35 :: c) = false := odd_none fun x hx => (c1 x hx).2
  have o2 : oddB (9 :: (s ++ 32 :: 35 :: c)) = false := odd_none fun x hx => (c2 x hx).2
  have hb : ∀ x, (s ++ 32 :: 35 :: c).head? = some x → blankB x = false := fun x hx => by
    cases s with
    | nil => exact absurd rfl h0
    | cons y r => exact ht.1 x hx
  have t1 : textL (tabL (9 :: (s ++ 32 :: 35 :: c))) (9 :: (s ++ 32 :: 35 :: c)) = s ++ 32 :: 35 :: cutR c := by
    unfold textL
    rw [show tabL (9 :: (s ++ 32 :: 35 :: c)) = true from rfl, if_pos rfl]
    unfold trimOf
    rw [cutL_cons, show blankB 9 = true from rfl, if_pos rfl, cutL_id hb, show s ++ 32 :: 35 :: c = (s ++ [32]) ++ 35 :: c by simp, cutR_mid _ _ 35 (by decide)]
    simp
  have tb : tabL (s ++ 32 :: 35 :: c) = false := by
    cases s with
    | nil => exact absurd rfl h0
    | cons y r =>
      have := ht.1 y rfl
      unfold tabL
      show ((some y : Option UInt8) == some 9) = false
      cases hy : (some y == (some 9 : Option UInt8)) with
      | false => rfl
      | true =>
        have : y = 9 := by simpa using hy
        subst this
        cases ht.1 9 rfl
  have t2 : textL (tabL (s ++ 32 :: 35 :: c)) (s ++ 32 :: 35 :: c) = s := by
    unfold textL
    rw [tb]
    simp only [Bool.false_eq_true, if_false]
    rw [show s ++ 32 :: 35 :: c = (s ++ [32]) ++ 35 :: c by simp, bare_mid (fun x hx => by
      rcases List.mem_append.1 hx with hx | hx
      · exact (hs x hx).2.2
      · simp only [List.mem_singleton] at hx; rw [hx]; decide)]
    unfold trimOf
    have hb2 : ∀ x, (s ++ [32]).head? = some x → blankB x = false := fun x hx => by
      cases s with
      | nil => exact absurd rfl h0
      | cons y r => exact ht.1 x hx
    rw [cutL_id hb2, cutR_snoc, show blankB 32 = true from rfl, if_pos rfl, cutR_id ht.2]
  have n1 : s ++ 32 :: 35 :: cutR c ≠ [] := by simp
  have hi : itemsL 1 [9 :: (s ++ 32 :: 35 :: c), s ++ 32 :: 35 :: c] = [(1, true, s ++ 32 :: 35 :: cutR c), (2, false, s)] := by
    rw [items_some (by rw [glue_even o2, t1]; exact n1), glue_even o2]
    simp only [List.drop_zero, Nat.add_zero]
    rw [items_some (by rw [glue_even o1, t2]; exact h0), glue_even o1, t1, t2, tb]
    simp only [List.drop_zero, Nat.add_zero]
    rw [items_nil]
    rfl
  have hcl := cutR_len c
  have hsc : scanL 0 [(1, true, s ++ 32 :: 35 :: cutR c), (2, false, s)] = none := by
    unfold scanL
    rw [if_neg (by simp; omega)]
    unfold scanL
    rw [if_neg (by simp; omega)]
    rfl
  unfold lexOf
  rw [e, hi, hsc]

/-! ### as many as there may be -/
theorem lines_xs : ∀ (n : Nat) (r : BS), linesL ((List.replicate n [120, 10]).flatten ++ r) = List.replicate n [120] ++ linesL r
  | 0, _ => rfl
  | n + 1, r => by
    have h1 := lines_app [120] ((List.replicate n [120, 10]).flatten ++ r)
    rw [List.replicate_succ, List.replicate_succ, List.flatten_cons]
    rw [show ([120, 10] ++ (List.replicate n [120, 10]).flatten ++ r : BS) = [120] ++ 10 :: ((List.replicate n [120, 10]).flatten ++ r) by simp, h1, lines_xs n r]
    rfl
theorem items_xs : ∀ (n no : Nat), itemsL no (List.replicate n [120]) = (List.range n).map fun i => (no + i, false, [120])
  | 0, no => items_nil no
  | n + 1, no => by
    have o : oddB [120] = false := by decide
    have t : textL (tabL [120]) [120] = [120] := by decide
    rw [List.replicate_succ, items_some (by rw [glue_even o, t]; simp), glue_even o, t]
    simp only [List.drop_zero, Nat.add_zero]
    rw [items_xs n (no + 1), List.range_succ_eq_map, List.map_cons, List.map_map]
    congr 1
    refine List.map_congr_left fun i _ => ?_
    simp only [Function.comp_apply, Prod.mk.injEq, and_true]
    omega
theorem scan_xs : ∀ (n m no : Nat), scanL m ((List.range n).map fun i => ((no + i, false, [120]) : Item)) = if m + n ≤ 300 ∨ n = 0 then none else some (no + (300 - m))
  | 0, m, no => by simp [scanL]
  | n + 1, m, no => by
    rw [List.range_succ_eq_map, List.map_cons, List.map_map]
    unfold scanL
    by_cases hm : 300 ≤ m
    · rw [if_pos (.inr hm), if_neg (by omega)]
      congr 1
      show no + 0 = _
      omega
    · rw [if_neg (by simp; omega)]
      have e : ((fun i => ((no + i, false, [120]) : Item)) ∘ Nat.succ) = fun i => ((no + 1 + i, false, [120]) : Item) := by
        funext i
        simp only [Function.comp_apply, Prod.mk.injEq, and_true]
        omega
      rw [e, scan_xs n (m + 1) (no + 1)]
      by_cases h : m + (n + 1) ≤ 300
      · rw [if_pos (.inl (by omega)), if_pos (.inl h)]
      · rw [if_neg (by omega), if_neg (by omega)]
        congr 1
        omega
theorem lines_ys (k : Nat) : linesL (List.replicate k 121) = if k = 0 then [] else [List.replicate k 121] := by
  cases k with
  | zero => rfl
  | succ k =>
    rw [if_neg (by omega)]
    exact lines_one (fun c hc => by rw [List.eq_of_mem_replicate hc]; decide) (by simp [List.replicate_succ])
theorem items_ys (k no : Nat) (h : k ≠ 0) : itemsL no [List.replicate k 121] = [(no, false, List.replicate k 121)] := by
  have o : oddB (List.replicate k 121) = false := odd_none fun c hc => by rw [List.eq_of_mem_replicate hc]; decide
  have hall : ∀ c ∈ List.replicate k (121 : UInt8), c = 121 := fun c hc => List.eq_of_mem_replicate hc
  have hb : bareL (List.replicate k 121) = List.replicate k 121 := by
    have : ∀ l : BS, (∀ c ∈ l, c ≠ 35) → bareL l = l := fun l => by
      induction l with
      | nil => intro _; rfl
      | cons x r ih => intro h; rw [bare_cons, if_neg (h x (by simp)), ih fun y hy => h y (by simp [hy])]
    exact this _ fun c hc => by rw [hall c hc]; decide
  have tt : trimOf (List.replicate k 121) = List.replicate k 121 := trim_id ⟨fun c hc => by rw [hall c (List.mem_of_head? hc)]; rfl, fun c hc => by rw [hall c (List.mem_of_getLast? hc)]; rfl⟩
  have tb : tabL (List.replicate k 121) = false := by
    cases k with
    | zero => exact absurd rfl h
    | succ k => rfl
  have t : textL (tabL (List.replicate k 121)) (List.replicate k 121) = List.replicate k 121 := by
    unfold textL
    rw [tb]
    simp only [Bool.false_eq_true, if_false]
    rw [hb, tt]
  have hne : List.replicate k (121 : UInt8) ≠ [] := by
    cases k with
    | zero => exact absurd rfl h
    | succ k => simp [List.replicate_succ]
  rw [items_some (by rw [glue_even o, t]; exact hne), glue_even o, t, tb]
  simp only [List.drop_nil]
  rw [items_nil]
/-- n lines of one byte, and k bytes. -/
theorem many_law (n k : Nat) : (300 < n → lexOf ((List.replicate n [120, 10]).flatten ++ List.replicate k 121) = ([], 3, 301)) ∧
    (n ≤ 300 → 0 < k → n = 300 ∨ 1000 < k → lexOf ((List.replicate n [120, 10]).flatten ++ List.replicate k 121) = ([], 3, n + 1)) ∧
    (n ≤ 300 → ¬ (0 < k ∧ (n = 300 ∨ 1000 < k)) → (lexOf ((List.replicate n [120, 10]).flatten ++ List.replicate k 121)).2 = (0, 0) ∧ (lexOf ((List.replicate n [120, 10]).flatten ++ List.replicate k 121)).1.length = n + min k 1) := by
  have ho : ∀ l ∈ List.replicate n ([120] : BS), oddB l = false := fun l hl => by rw [List.eq_of_mem_replicate hl]; decide
  have hI : itemsL 1 (linesL ((List.replicate n [120, 10]).flatten ++ List.replicate k 121)) = ((List.range n).map fun i => ((1 + i, false, [120]) : Item)) ++ itemsL (1 + n) (linesL (List.replicate k 121)) := by
    rw [lines_xs, items_app _ _ _ ho, items_xs, List.length_replicate]
  have hlen : ((List.range n).map fun i => ((1 + i, false, [120]) : Item)).length = n := by simp
  refine ⟨fun h => ?_, fun h h1 h2 => ?_, fun h h1 => ?_⟩
  · refine lex_err ?_
    rw [hI]
    have hs := scan_xs n 0 1
    rw [if_neg (by omega)] at hs
    have : ∀ (l r : List Item) (m a : Nat), scanL m l = some a → scanL m (l ++ r) = some a := fun l => by
      induction l with
      | nil => intro r m a h; cases h
      | cons x l ih =>
        intro r m a h
        unfold scanL at h
        rw [List.cons_append, scanL]
        split at h
        · rename_i hx; rw [if_pos hx]; exact h
        · rename_i hx; rw [if_neg hx]; exact ih r (m + 1) a h
    exact this _ _ _ _ hs
  · refine lex_err ?_
    have hs := scan_xs n 0 1
    rw [if_pos (.inl (by omega))] at hs
    rw [hI, scan_app _ _ _ hs, hlen, lines_ys, if_neg (by omega), items_ys k _ (by omega)]
    unfold scanL
    rw [if_pos (by simp; omega)]
    congr 1
    omega
  · have hs := scan_xs n 0 1
    rw [if_pos (.inl (by omega))] at hs
    by_cases hk : k = 0
    · subst hk
      have h2 : itemsL 1 (linesL ((List.replicate n [120, 10]).flatten ++ List.replicate 0 121)) = (List.range n).map fun i => ((1 + i, false, [120]) : Item) := by
        rw [hI, lines_ys, if_pos rfl, items_nil, List.append_nil]
      rw [lex_ok (by rw [h2]; exact hs), h2]
      exact ⟨rfl, by rw [hlen]; omega⟩
    · have h2 : itemsL 1 (linesL ((List.replicate n [120, 10]).flatten ++ List.replicate k 121)) = ((List.range n).map fun i => ((1 + i, false, [120]) : Item)) ++ [(1 + n, false, List.replicate k 121)] := by
        rw [hI, lines_ys, if_neg hk, items_ys k _ hk]
      have h3 : scanL 0 (itemsL 1 (linesL ((List.replicate n [120, 10]).flatten ++ List.replicate k 121))) = none := by
        rw [h2, scan_app _ _ _ hs, hlen]
        unfold scanL
        rw [if_neg (by simp; omega)]
        rfl
      rw [lex_ok h3, h2]
      exact ⟨rfl, by rw [List.length_append, hlen]; simp; omega⟩

end Go.Proofs.YtmonbnmjbgdkoaaDoor
