/-
  Chapter 8's lines put together by their trimmed pieces: the same as one put on behind the other; no program. No condition.
-/
import Derived.Test.YtldddecaeloohaaDoorEK
namespace Go.Proofs.YtldddecaeloohaaDoor

/-- The texts with one blank between. -/
def joinP : List BS → BS
  | [] => []
  | [p] => p
  | p :: q :: r => p ++ 32 :: joinP (q :: r)
theorem join_snoc : ∀ (P : List BS) (q : BS), P ≠ [] → joinP (P ++ [q]) = joinP P ++ 32 :: q
  | [], _, h => absurd rfl h
  | [p], q, _ => rfl
  | p :: p' :: r, q, _ => by
    have ih := join_snoc (p' :: r) q (by simp)
    show p ++ 32 :: joinP (p' :: r ++ [q]) = p ++ 32 :: joinP (p' :: r) ++ 32 :: q
    rw [ih]; simp
theorem join_ne : ∀ {P : List BS}, P ≠ [] → (∀ p ∈ P, p ≠ []) → joinP P ≠ []
  | [], h, _ => absurd rfl h
  | [p], _, h => h p (by simp)
  | p :: q :: r, _, _ => by show p ++ 32 :: joinP (q :: r) ≠ []; simp
theorem join_is (P : List BS) : joinP P = [32].intercalate P := by
  induction P with
  | nil => rfl
  | cons p r ih =>
    cases r with
    | nil => simp [joinP, List.intercalate]
    | cons q r =>
      show p ++ 32 :: joinP (q :: r) = _
      rw [ih]
      simp [List.intercalate]

/-! ### blanks cut off what is put together -/
theorem cutL_app : ∀ {u : BS} (v : BS), cutL u ≠ [] → cutL (u ++ v) = cutL u ++ v
  | [], _, h => absurd rfl h
  | c :: r, v, h => by
    rw [cutL_cons] at h
    rw [List.cons_append, cutL_cons, cutL_cons]
    by_cases hc : blankB c = true
    · rw [if_pos hc] at h ⊢
      rw [if_pos hc]; exact cutL_app v h
    · rw [if_neg hc, if_neg hc]; rfl
theorem cutL_none : ∀ {u : BS} (v : BS), cutL u = [] → cutL (u ++ v) = cutL v
  | [], _, _ => rfl
  | c :: r, v, h => by
    rw [cutL_cons] at h
    by_cases hc : blankB c = true
    · rw [if_pos hc] at h
      rw [List.cons_append, cutL_cons, if_pos hc]; exact cutL_none v h
    · rw [if_neg hc] at h; cases h
theorem cutR_app : ∀ (u : BS) {v : BS}, cutR v ≠ [] → cutR (u ++ v) = u ++ cutR v
  | [], _, _ => rfl
  | c :: r, v, h => by
    rw [List.cons_append, cutR_cons, cutR_app r h, if_neg (by simp [h])]; rfl
theorem cutR_none : ∀ (u : BS) {v : BS}, cutR v = [] → cutR (u ++ v) = cutR u
  | [], v, h => by rw [List.nil_append, h]; rfl
  | c :: r, v, h => by rw [List.cons_append, cutR_cons, cutR_none r h, ← cutR_cons]
theorem cut_right : ∀ {y : BS}, cutL y = [] → cutR y = []
  | [], _ => rfl
  | c :: r, h => by
    rw [cutL_cons] at h
    by_cases hc : blankB c = true
    · rw [if_pos hc] at h
      rw [cutR_cons, if_pos (cut_right h), if_pos hc]
    · rw [if_neg hc] at h; cases h
theorem cutL_twice (y : BS) : cutL (cutL y) = cutL y := cutL_id (cutL_head y)
theorem cutR_twice (y : BS) : cutR (cutR y) = cutR y := cutR_id (cutR_last y)
theorem trim_none {y : BS} (h : trimOf y = []) : cutR y = [] := by
  have h1 : cutL (cutR y) = [] := by rw [cut_swap]; exact h
  have h2 := cut_right h1
  rw [cutR_twice] at h2
  exact h2
/-- Two lines put together, and trimmed. -/
theorem trim_glued (y c : BS) : trimOf (cutR y ++ 32 :: cutL c) = if trimOf y = [] then trimOf c else if trimOf c = [] then trimOf y else trimOf y ++ 32 :: trimOf c := by
  have hb : blankB 32 = true := rfl
  by_cases hy : trimOf y = []
  · rw [if_pos hy, trim_none hy, List.nil_append]
    show cutR (cutL (32 :: cutL c)) = trimOf c
    rw [cutL_cons, if_pos hb, cutL_twice]; rfl
  · rw [if_neg hy]
    have e : cutL (cutR y) = trimOf y := cut_swap y
    show cutR (cutL (cutR y ++ 32 :: cutL c)) = _
    rw [cutL_app _ (by rw [e]; exact hy), e]
    by_cases hc : trimOf c = []
    · have hc' : cutR (cutL c) = [] := hc
      rw [if_pos hc, cutR_none _ (by rw [cutR_cons, if_pos hc', if_pos hb]), cutR_id (trim_tight y).2]
    · have e2 : cutR (32 :: cutL c) = 32 :: trimOf c := by
        have hc' : ¬ cutR (cutL c) = [] := hc
        rw [cutR_cons, if_neg hc']; rfl
      rw [if_neg hc, cutR_app _ (by rw [e2]; simp), e2]

/-! ### what a comment leaves -/
theorem bare_cutL (x : BS) : bareL (cutL x) = cutL (bareL x) := by
  induction x with
  | nil => rfl
  | cons c r ih =>
    by_cases hc : blankB c = true
    · have h35 : c ≠ 35 := by rcases blankB_is.1 hc with rfl | rfl <;> decide
      rw [cutL_cons, if_pos hc, bare_cons, if_neg h35, cutL_cons, if_pos hc, ih]
    · rw [cutL_cons, if_neg hc, bare_cons]
      by_cases h35 : c = 35
      · rw [if_pos h35]; rfl
      · rw [if_neg h35, cutL_cons, if_neg hc]
theorem cutR_bare (x : BS) : cutR (bareL (cutR x)) = cutR (bareL x) := by
  induction x with
  | nil => rfl
  | cons c r ih =>
    rw [cutR_cons c r]
    by_cases hr : cutR r = []
    · rw [hr] at ih
      have ih' : cutR (bareL r) = [] := ih.symm
      rw [if_pos hr]
      by_cases hc : blankB c = true
      · have h35 : c ≠ 35 := by rcases blankB_is.1 hc with rfl | rfl <;> decide
        rw [if_pos hc, bare_cons, if_neg h35, cutR_cons, if_pos ih', if_pos hc]; rfl
      · rw [if_neg hc, bare_cons, bare_cons]
        by_cases h35 : c = 35
        · rw [if_pos h35, if_pos h35]
        · rw [if_neg h35, if_neg h35, cutR_cons c (bareL r), if_pos ih', if_neg hc]
          show cutR [c] = [c]
          rw [cutR_cons, if_pos (show cutR [] = [] from rfl), if_neg hc]
    · rw [if_neg hr, bare_cons, bare_cons]
      by_cases h35 : c = 35
      · rw [if_pos h35, if_pos h35]
      · rw [if_neg h35, if_neg h35, cutR_cons, cutR_cons, ih]
theorem trim_twice (x : BS) : trimOf (trimOf x) = trimOf x := trim_id (trim_tight x)
theorem text_trim (tab : Bool) (x : BS) : textL tab (trimOf x) = textL tab x := by
  unfold textL
  cases tab with
  | true => exact trim_twice x
  | false =>
    show trimOf (bareL (cutR (cutL x))) = trimOf (bareL x)
    have e : ∀ z : BS, trimOf z = cutL (cutR z) := fun z => (cut_swap z).symm
    rw [e, cutR_bare, ← e, bare_cutL]
    show cutR (cutL (cutL (bareL x))) = _
    rw [cutL_twice]; rfl

/-! ### a line without the sign that it goes on -/
def coreL (b : BS) : BS := if oddB b then b.dropLast else b
def pieceL (b : BS) : BS := trimOf (coreL b)
theorem odd_last {b : BS} (h : oddB b = true) : ∃ u, b = u ++ [92] := by
  rcases List.eq_nil_or_concat b with rfl | ⟨u, c, rfl⟩
  · cases h
  · rw [List.concat_eq_append] at h ⊢
    refine ⟨u, ?_⟩
    by_cases hc : c = 92
    · rw [hc]
    · have := strokes_none (l := u ++ [c]) (fun d hd => by simp at hd; rw [← hd]; exact hc)
      unfold oddB at h
      rw [this] at h
      cases h
theorem core_join (a b : BS) : coreL (joinL a b) = cutR a.dropLast ++ 32 :: cutL (coreL b) := by
  unfold coreL
  rw [odd_join]
  cases hb : oddB b with
  | false => rfl
  | true =>
    obtain ⟨u, rfl⟩ := odd_last hb
    have e : cutL (u ++ [92]) = cutL u ++ [92] := by
      by_cases hu : cutL u = []
      · rw [cutL_none _ hu, hu]; rfl
      · exact cutL_app _ hu
    unfold joinL
    simp only [if_true, List.dropLast_concat]
    rw [e, ← List.cons_append, ← List.append_assoc, List.dropLast_concat]
theorem core_odd {a : BS} (h : oddB a = true) : coreL a = a.dropLast := by unfold coreL; rw [if_pos h]
theorem core_even {a : BS} (h : oddB a = false) : coreL a = a := by unfold coreL; rw [h]; rfl

/-- What a loop over the lines keeps: k of them are taken, whether it goes on, the pieces. -/
structure Put (a : BS) (r : List BS) (k : Nat) (g : Bool) (P : List BS) : Prop where
  full : ∀ p ∈ P, p ≠ []
  few : P.length ≤ k
  begun : k = 0 → g = true ∧ P = []
  on : ∀ j, k = j + 1 → ∃ x, Glued a r x j ∧ g = oddB x ∧ joinP P = trimOf (coreL x)
theorem Put.start (a : BS) (r : List BS) : Put a r 0 true [] := ⟨by simp, Nat.le_refl _, fun _ => ⟨rfl, rfl⟩, fun j h => by cases h⟩
section
variable {a b : BS} {r : List BS} {k : Nat} {g : Bool} {P : List BS}
theorem Put.join (h : Put a r k true P) (hb : (a :: r)[k]? = some b) : ∃ x, Glued a r x k ∧ oddB b = oddB x ∧ (if joinP P = [] then pieceL b else if pieceL b = [] then joinP P else joinP P ++ 32 :: pieceL b) = trimOf (coreL x) := by
  cases k with
  | zero =>
    obtain ⟨_, rfl⟩ := h.begun rfl
    have e : a = b := by simpa using hb
    subst e
    exact ⟨a, Glued.start a r, rfl, rfl⟩
  | succ j =>
    obtain ⟨x, hx, hg, hj⟩ := h.on j rfl
    have hb' : r[j]? = some b := by simpa using hb
    refine ⟨joinL x b, hx.next hb' hg.symm, (odd_join x b).symm, ?_⟩
    rw [core_join, trim_glued, hj, core_odd hg.symm]; rfl
theorem Put.skip (h : Put a r k true P) (hb : (a :: r)[k]? = some b) (hp : pieceL b = []) : Put a r (k + 1) (oddB b) P := by
  obtain ⟨x, h1, h2, h3⟩ := h.join hb
  refine ⟨h.full, Nat.le_succ_of_le h.few, fun h => by omega, fun j hj => ?_⟩
  obtain rfl : k = j := by omega
  refine ⟨x, h1, h2, ?_⟩
  rw [← h3, hp]
  by_cases hj : joinP P = []
  · rw [if_pos hj, hj]
  · rw [if_neg hj, if_pos rfl]
theorem Put.next (h : Put a r k true P) (hb : (a :: r)[k]? = some b) (hp : pieceL b ≠ []) : Put a r (k + 1) (oddB b) (P ++ [pieceL b]) := by
  obtain ⟨x, h1, h2, h3⟩ := h.join hb
  refine ⟨fun p hm => ?_, by rw [List.length_append]; exact Nat.succ_le_succ h.few, fun h => by omega, fun j hj => ?_⟩
  · rcases List.mem_append.1 hm with hm | hm
    · exact h.full p hm
    · rw [List.mem_singleton.1 hm]; exact hp
  obtain rfl : k = j := by omega
  refine ⟨x, h1, h2, ?_⟩
  rw [← h3]
  by_cases hP : P = []
  · subst hP; rw [if_pos (show joinP [] = [] from rfl)]; rfl
  · rw [if_neg (join_ne hP h.full), if_neg hp, join_snoc _ _ hP]
/-- No line more, or it does not go on. -/
theorem Put.done (h : Put a r k g P) (he : g = false ∨ r.length < k) : k = (glue a r).2 + 1 ∧ joinP P = trimOf (glue a r).1 := by
  cases k with
  | zero =>
    rcases he with he | he
    · rw [(h.begun rfl).1] at he; cases he
    · omega
  | succ j =>
    obtain ⟨x, hx, hg, hj⟩ := h.on j rfl
    cases ho : oddB x with
    | false =>
      rw [hx.even ho, hj, core_even ho]; exact ⟨rfl, rfl⟩
    | true =>
      rw [hg, ho] at he
      have hr : r.length ≤ j := by
        rcases he with he | he
        · cases he
        · omega
      rw [hx.last ho hr, hj, core_odd ho]; exact ⟨rfl, rfl⟩
end
/-- How long it may be. -/
theorem join_len (a b : BS) : (joinL a b).length ≤ a.length + b.length + 1 := by
  have h1 := cutR_len a.dropLast
  have h2 := cutL_len b
  unfold joinL
  rw [List.length_append, List.length_cons]
  rw [List.length_dropLast] at h1
  omega
theorem glue_len (M : Nat) : ∀ (r : List BS) (a : BS), (∀ l ∈ r, l.length ≤ M) → (glue a r).1.length ≤ a.length + r.length * (M + 1)
  | [], a, _ => by
    unfold glue
    split
    · rw [List.length_dropLast]; simp
    · simp
  | b :: r, a, h => by
    have hb := h b (by simp)
    have ih := glue_len M r (joinL a b) (fun l hl => h l (List.mem_cons_of_mem _ hl))
    have hj := join_len a b
    unfold glue
    split
    · show (glue (joinL a b) r).1.length ≤ _
      rw [List.length_cons, Nat.add_mul]
      omega
    · rw [List.length_cons]; exact Nat.le_add_right _ _
theorem pieces_short (p : UInt8 → Bool) (l : BS) : ∀ x ∈ pieces p l, x.length ≤ l.length := by
  induction l with
  | nil => intro x hx; simp [pieces] at hx; subst hx; simp
  | cons c r ih =>
    simp only [pieces]
    split
    · intro x hx
      rcases List.mem_cons.1 hx with rfl | hx
      · simp
      · have := ih x hx; simp; omega
    · split
      · rename_i h t e
        rw [e] at ih
        intro x hx
        rcases List.mem_cons.1 hx with rfl | hx
        · have := ih h (by simp); simp; omega
        · have := ih x (by simp [hx]); simp; omega
      · rename_i e; exact absurd e (pieces_ne p r)
theorem lines_short {l : BS} : ∀ x ∈ linesL l, x.length ≤ l.length := by
  intro x hx
  have hm : x ∈ pieces nlB l := by
    unfold linesL at hx
    split at hx
    · exact List.dropLast_subset _ hx
    · exact hx
  exact pieces_short nlB l x hm
end Go.Proofs.YtldddecaeloohaaDoor
