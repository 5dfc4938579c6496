/-
  Chapter 9's statements in plain words: what is cut is whole; rows one behind the other; conditionals; recipes. No program, no world. No condition.
-/
import Derived.Test.YtldddecaeloohaaDoorPM
namespace Go.Proofs.YtldddecaeloohaaDoor

/-! ### what is cut -/
theorem cut_cases (signs : List BS) (st : List UInt8) (c : UInt8) (r : BS) :
    (∃ d r' q, r = d :: r' ∧ opens (c :: r) = some q ∧ cutW signs st (c :: r) = Cut3.put c (Cut3.put d (cutW signs (q :: st) r'))) ∨
    (opens (c :: r) = none ∧ ((st.head? = some c ∧ cutW signs st (c :: r) = Cut3.put c (cutW signs st.tail r)) ∨
      (¬ st.head? = some c ∧ st ≠ [] ∧ cutW signs st (c :: r) = Cut3.put c (cutW signs st r)) ∨
      (st = [] ∧ ∃ x, signAt signs (c :: r) = some x ∧ cutW signs st (c :: r) = ([], x, (c :: r).drop x.length)) ∨
      (st = [] ∧ signAt signs (c :: r) = none ∧ cutW signs st (c :: r) = Cut3.put c (cutW signs st r)))) := by
  cases ho : opens (c :: r) with
  | some q =>
    cases r with
    | nil => cases ho
    | cons d r => exact .inl ⟨d, r, q, rfl, rfl, cutW_open ho⟩
  | none =>
    refine .inr ⟨rfl, ?_⟩
    by_cases hs : st.head? = some c
    · exact .inl ⟨hs, cutW_close ho hs⟩
    · by_cases hn : st = []
      · subst hn
        cases hx : signAt signs (c :: r) with
        | some x => exact .inr (.inr (.inl ⟨rfl, x, rfl, cutW_sign ho hx⟩))
        | none => exact .inr (.inr (.inr ⟨rfl, rfl, cutW_out ho hx⟩))
      · exact .inr (.inl ⟨hs, hn, cutW_in ho hs hn⟩)
def Whole (signs : List BS) (s : BS) (k : Cut3) : Prop := (k.2.1 = [] ∧ k.1 = s ∧ k.2.2 = []) ∨ (k.2.1 ∈ signs ∧ k.2.1 ≠ [] ∧ k.1 ++ k.2.1 ++ k.2.2 = s)
theorem Whole.put {signs : List BS} {s : BS} {k : Cut3} (c : UInt8) (h : Whole signs s k) : Whole signs (c :: s) (Cut3.put c k) := by
  rcases h with ⟨h1, h2, h3⟩ | ⟨h1, h2, h3⟩
  · exact .inl ⟨h1, by show c :: k.1 = _; rw [h2], h3⟩
  · exact .inr ⟨h1, h2, by show c :: k.1 ++ k.2.1 ++ k.2.2 = _; rw [List.cons_append, List.cons_append, h3]⟩
theorem cutW_whole (signs : List BS) : ∀ (n : Nat) (st : List UInt8) (s : BS), s.length ≤ n → Whole signs s (cutW signs st s)
  | _, st, [], _ => by rw [cutW_nil]; exact .inl ⟨rfl, rfl, rfl⟩
  | 0, _, _ :: _, h => by simp at h
  | n + 1, st, c :: r, h => by
    have hr : r.length ≤ n := by simpa using h
    rcases cut_cases signs st c r with ⟨d, r', q, rfl, _, e⟩ | ⟨_, ⟨_, e⟩ | ⟨_, _, e⟩ | ⟨_, x, hx, e⟩ | ⟨_, _, e⟩⟩
    · rw [e]; exact ((cutW_whole signs n _ r' (by simp at hr; omega)).put d).put c
    · rw [e]; exact (cutW_whole signs n _ r hr).put c
    · rw [e]; exact (cutW_whole signs n _ r hr).put c
    · rw [e]
      obtain ⟨h1, h2, h3⟩ := sign_at hx
      exact .inr ⟨h1, h2, by rw [List.nil_append]; exact h3⟩
    · rw [e]; exact (cutW_whole signs n _ r hr).put c
theorem cut_whole (signs : List BS) (s : BS) : Whole signs s (cutOf signs s) := cutW_whole signs s.length [] s (Nat.le_refl _)
theorem cut_len (signs : List BS) (s : BS) : (cutOf signs s).1.length ≤ s.length ∧ (cutOf signs s).2.2.length ≤ s.length := by
  rcases cut_whole signs s with ⟨_, h2, h3⟩ | ⟨_, _, h3⟩
  · rw [h2, h3]; simp
  · have := congrArg List.length h3
    simp only [List.length_append] at this
    omega
theorem sign_one (b c : UInt8) (r : BS) : signAt [[b]] (c :: r) = if b = c then some [b] else none := by
  unfold signAt
  by_cases h : b = c
  · rw [if_pos h]; subst h; simp [List.isPrefixOf]
  · have h' : (b == c) = false := by simpa using h
    rw [if_neg h]; simp [List.isPrefixOf, h']
/-- Ahead of a sign of one byte there is none. -/
theorem cutW_none (b : UInt8) : ∀ (n : Nat) (st : List UInt8) (s : BS), s.length ≤ n → (cutW [[b]] st s).2.1 ≠ [] → (cutW [[b]] st (cutW [[b]] st s).1).2.1 = []
  | _, st, [], _, h => by rw [cutW_nil] at h; exact absurd rfl h
  | 0, _, _ :: _, h, _ => by simp at h
  | n + 1, st, c :: r, hl, h => by
    have hr : r.length ≤ n := by simpa using hl
    -- what is ahead in what is behind this byte begins as that does
    have key : ∀ (st' : List UInt8), (cutW [[b]] st' r).2.1 ≠ [] → opens (c :: r) = none → opens (c :: (cutW [[b]] st' r).1) = none := fun st' h1 h2 => by
      rcases cutW_whole [[b]] n st' r hr with ⟨e, _⟩ | ⟨_, _, e⟩
      · exact absurd e h1
      · cases hq : (cutW [[b]] st' r).1 with
        | nil => rfl
        | cons d a =>
          rw [hq] at e
          obtain ⟨r', hr'⟩ : ∃ r', r = d :: r' := ⟨_, e.symm⟩
          rw [hr'] at h2
          unfold opens at h2 ⊢
          exact h2
    rcases cut_cases [[b]] st c r with ⟨d, r', q, rfl, ho, e⟩ | ⟨ho, ⟨hs, e⟩ | ⟨hs, hn, e⟩ | ⟨hn, x, hx, e⟩ | ⟨hn, hx, e⟩⟩
    · rw [e] at h ⊢
      have ih := cutW_none b n (q :: st) r' (by simp at hr; omega) h
      show (cutW [[b]] st (c :: d :: (cutW [[b]] (q :: st) r').1)).2.1 = []
      have ho' : opens (c :: d :: (cutW [[b]] (q :: st) r').1) = some q := by unfold opens at ho ⊢; exact ho
      rw [cutW_open ho']; exact ih
    · rw [e] at h ⊢
      have ih := cutW_none b n st.tail r hr h
      show (cutW [[b]] st (c :: (cutW [[b]] st.tail r).1)).2.1 = []
      rw [cutW_close (key _ h ho) hs]; exact ih
    · rw [e] at h ⊢
      have ih := cutW_none b n st r hr h
      show (cutW [[b]] st (c :: (cutW [[b]] st r).1)).2.1 = []
      rw [cutW_in (key _ h ho) hs hn]; exact ih
    · rw [e, hn, cutW_nil]
    · rw [e] at h ⊢
      subst hn
      have ih := cutW_none b n [] r hr h
      show (cutW [[b]] [] (c :: (cutW [[b]] [] r).1)).2.1 = []
      have hx' : signAt [[b]] (c :: (cutW [[b]] [] r).1) = none := by
        rw [sign_one] at hx ⊢
        exact hx
      rw [cutW_out (key _ h ho) hx']; exact ih
theorem cut_none (b : UInt8) (s : BS) (h : (cutOf [[b]] s).2.1 ≠ []) : (cutOf [[b]] (cutOf [[b]] s).1).2.1 = [] := cutW_none b s.length [] s (Nat.le_refl _) h
/-- A sign without a byte is none. -/
theorem cut_empty (s : BS) : (cutOf [[]] s).2.1 = [] := by
  rcases cut_whole [[]] s with ⟨h, _⟩ | ⟨h1, h2, _⟩
  · exact h
  · exact absurd (by simpa using h1) h2
/-- Bytes with which none of the signs begins, and that open nothing. -/
theorem cutW_clean {signs : List BS} : ∀ (u v : BS), (∀ c ∈ u, c ≠ 36 ∧ ∀ x ∈ signs, x.head? ≠ some c) → cutW signs [] (u ++ v) = (u ++ (cutW signs [] v).1, (cutW signs [] v).2.1, (cutW signs [] v).2.2)
  | [], v, _ => rfl
  | c :: u, v, h => by
    have ih := cutW_clean u v (fun d hd => h d (List.mem_cons_of_mem _ hd))
    obtain ⟨h1, h2⟩ := h c (by simp)
    have ho : opens (c :: (u ++ v)) = none := by
      cases u ++ v with
      | nil => rfl
      | cons d w =>
        show (if c = 36 then (if d = 40 then some 41 else if d = 123 then some 125 else none) else none) = (none : Option UInt8)
        rw [if_neg h1]
    have hx : signAt signs (c :: (u ++ v)) = none := by
      unfold signAt
      rw [List.find?_eq_none]
      intro x hm hp
      simp only [Bool.and_eq_true, decide_eq_true_eq, List.isPrefixOf_iff_prefix] at hp
      obtain ⟨hne, t, ht⟩ := hp
      cases x with
      | nil => exact hne rfl
      | cons d x =>
        have hd : d = c := (List.cons.inj ht).1
        exact h2 _ hm (by rw [hd]; rfl)
    rw [List.cons_append, cutW_out ho hx, ih]
    rfl

/-! ### rows of lines -/
section
variable {op : List Bool} {out : List Nd} {no : Int} {t : BS} {r : List LineI}
theorem parse_tab : parseF op out ((no, true, t) :: r) = (match out.getLast? with
    | some n => if n.kind = 2 then parseF op (out.dropLast ++ [{ n with recipe := n.recipe ++ [t] }]) r else badL 2 no
    | none => badL 2 no) := rfl
theorem parse_one : parseF op out ((no, false, t) :: r) = (match oneL no t with
    | none => badL 2 no
    | some n =>
      if n.kind = 3 then (if op.length = 20 then badL 15 no else parseF (false :: op) (out ++ [n]) r)
      else if n.kind = 4 then (match op with
        | false :: o => parseF (true :: o) (out ++ [n]) r
        | _ => badL 2 no)
      else if n.kind = 5 then (match op with
        | _ :: o => parseF o (out ++ [n]) r
        | [] => badL 2 no)
      else parseF op (out ++ [n]) r) := rfl
theorem parse_nil : parseF op out [] = if op = [] then (out, 0, 0) else badL 14 0 := by unfold parseF; rfl
end
/-- The ways of one line: it is wrong, or it goes on. -/
theorem parse_step (op : List Bool) (out : List Nd) (x : LineI) :
    (∃ e, e ≠ 0 ∧ e ≠ 14 ∧ ∀ r, parseF op out (x :: r) = badL e x.1) ∨
    (∃ n, x.2.1 = true ∧ out.getLast? = some n ∧ n.kind = 2 ∧ ∀ r, parseF op out (x :: r) = parseF op (out.dropLast ++ [{ n with recipe := n.recipe ++ [x.2.2] }]) r) ∨
    (∃ n op', x.2.1 = false ∧ oneL x.1 x.2.2 = some n ∧ (∀ r, parseF op out (x :: r) = parseF op' (out ++ [n]) r) ∧
      ((n.kind = 3 ∧ op.length < 20 ∧ op' = false :: op ∨ n.kind = 3 ∧ 20 < op.length ∧ op' = false :: op) ∨ (n.kind = 4 ∧ ∃ o, op = false :: o ∧ op' = true :: o) ∨ (n.kind = 5 ∧ ∃ b o, op = b :: o ∧ op' = o) ∨ (n.kind ≠ 3 ∧ n.kind ≠ 4 ∧ n.kind ≠ 5 ∧ op' = op))) := by
  obtain ⟨no, tab, t⟩ := x
  cases tab with
  | true =>
    cases hl : out.getLast? with
    | none => exact .inl ⟨2, by decide, by decide, fun r => by rw [parse_tab, hl]⟩
    | some n =>
      by_cases hk : n.kind = 2
      · exact .inr (.inl ⟨n, rfl, rfl, hk, fun r => by rw [parse_tab, hl]; simp only; rw [if_pos hk]⟩)
      · exact .inl ⟨2, by decide, by decide, fun r => by rw [parse_tab, hl]; simp only; rw [if_neg hk]⟩
  | false =>
    cases h1 : oneL no t with
    | none => exact .inl ⟨2, by decide, by decide, fun r => by rw [parse_one, h1]⟩
    | some n =>
      by_cases h3 : n.kind = 3
      · by_cases h20 : op.length = 20
        · exact .inl ⟨15, by decide, by decide, fun r => by rw [parse_one, h1]; simp only; rw [if_pos h3, if_pos h20]⟩
        · refine .inr (.inr ⟨n, false :: op, rfl, rfl, fun r => by rw [parse_one, h1]; simp only; rw [if_pos h3, if_neg h20], .inl ?_⟩)
          rcases Nat.lt_or_gt_of_ne h20 with h | h
          · exact .inl ⟨h3, h, rfl⟩
          · exact .inr ⟨h3, h, rfl⟩
      by_cases h4 : n.kind = 4
      · cases op with
        | nil => exact .inl ⟨2, by decide, by decide, fun r => by rw [parse_one, h1]; simp only; rw [if_neg h3, if_pos h4]⟩
        | cons b o =>
          cases b with
          | true => exact .inl ⟨2, by decide, by decide, fun r => by rw [parse_one, h1]; simp only; rw [if_neg h3, if_pos h4]⟩
          | false => exact .inr (.inr ⟨n, true :: o, rfl, rfl, fun r => by rw [parse_one, h1]; simp only; rw [if_neg h3, if_pos h4], .inr (.inl ⟨h4, o, rfl, rfl⟩)⟩)
      by_cases h5 : n.kind = 5
      · cases op with
        | nil => exact .inl ⟨2, by decide, by decide, fun r => by rw [parse_one, h1]; simp only; rw [if_neg h3, if_neg h4, if_pos h5]⟩
        | cons b o => exact .inr (.inr ⟨n, o, rfl, rfl, fun r => by rw [parse_one, h1]; simp only; rw [if_neg h3, if_neg h4, if_pos h5], .inr (.inr (.inl ⟨h5, b, o, rfl, rfl⟩))⟩)
      · exact .inr (.inr ⟨n, op, rfl, rfl, fun r => by rw [parse_one, h1]; simp only; rw [if_neg h3, if_neg h4, if_neg h5], .inr (.inr (.inr ⟨h3, h4, h5, rfl⟩))⟩)

/-- Right, or without nodes. -/
theorem parse_err : ∀ (l : List LineI) (op : List Bool) (out : List Nd), (parseF op out l).2.1 ≠ 0 → (parseF op out l).1 = []
  | [], op, out, h => by
    rw [parse_nil] at h ⊢
    split
    · rename_i hop; rw [if_pos hop] at h; exact absurd rfl h
    · rfl
  | x :: l, op, out, h => by
    rcases parse_step op out x with ⟨e, _, _, h1⟩ | ⟨n, _, _, _, h1⟩ | ⟨n, op', _, _, h1, _⟩
    · rw [h1]; rfl
    · rw [h1] at h ⊢; exact parse_err l _ _ h
    · rw [h1] at h ⊢; exact parse_err l _ _ h
theorem parse_no : ∀ (l : List LineI) (op : List Bool) (out : List Nd), ((parseF op out l).2.1 = 0 ∨ (parseF op out l).2.1 = 14) → (parseF op out l).2.2 = 0
  | [], op, out, _ => by
    rw [parse_nil]
    split <;> rfl
  | x :: l, op, out, h => by
    rcases parse_step op out x with ⟨e, h0, h14, h1⟩ | ⟨n, _, _, _, h1⟩ | ⟨n, op', _, _, h1, _⟩
    · rw [h1] at h
      rcases h with h | h
      · exact absurd h h0
      · exact absurd h h14
    · rw [h1] at h ⊢; exact parse_no l _ _ h
    · rw [h1] at h ⊢; exact parse_no l _ _ h
/-- One row behind the other. -/
theorem parse_seq : ∀ (l k : List LineI) (op : List Bool) (out a : List Nd) (m : Int), parseF op out l = (a, 0, m) → parseF op out (l ++ k) = parseF [] a k
  | [], k, op, out, a, m, h => by
    rw [parse_nil] at h
    split at h
    · rename_i hop; cases h; rw [hop]; rfl
    · cases h
  | x :: l, k, op, out, a, m, h => by
    rw [List.cons_append]
    rcases parse_step op out x with ⟨e, h0, _, h1⟩ | ⟨n, _, _, _, h1⟩ | ⟨n, op', _, _, h1, _⟩
    · rw [h1] at h; cases h; exact absurd rfl h0
    · rw [h1] at h ⊢; exact parse_seq l k _ _ a m h
    · rw [h1] at h ⊢; exact parse_seq l k _ _ a m h
/-- Nodes that stand ahead stay. -/
theorem parse_app : ∀ (r : List LineI) (op : List Bool) (p out a : List Nd) (m : Int), parseF op out r = (a, 0, m) → parseF op (p ++ out) r = (p ++ a, 0, m)
  | [], op, p, out, a, m, h => by
    rw [parse_nil] at h ⊢
    split at h
    · rename_i hop; cases h; rw [if_pos hop]
    · cases h
  | x :: r, op, p, out, a, m, h => by
    rcases parse_step op out x with ⟨e, h0, _, h1⟩ | ⟨n, ht, hl, hk, h1⟩ | ⟨n, op', ht, hn, h1, h2⟩
    · rw [h1] at h; cases h; exact absurd rfl h0
    · rw [h1] at h
      have ih := parse_app r op p _ a m h
      have hne : out ≠ [] := by intro e; rw [e] at hl; cases hl
      rcases parse_step op (p ++ out) x with ⟨e, h0, _, h3⟩ | ⟨n', _, hl', hk', h3⟩ | ⟨n', op'', ht', _, _, _⟩
      · exfalso
        obtain ⟨no, tab, t⟩ := x
        simp only at ht
        subst ht
        have := h3 r
        rw [parse_tab, List.getLast?_append, hl, Option.some_or] at this
        simp only [if_pos hk] at this
        rw [List.dropLast_append_of_ne_nil hne, List.append_assoc, ih] at this
        exact h0 (congrArg (fun q : Parsed => q.2.1) this).symm
      · rw [List.getLast?_append, hl, Option.some_or] at hl'
        cases hl'
        rw [h3, List.dropLast_append_of_ne_nil hne, List.append_assoc]
        exact ih
      · rw [ht] at ht'; cases ht'
    · rw [h1] at h
      have ih := parse_app r op' p _ a m h
      rw [← List.append_assoc] at ih
      rw [← ih]
      obtain ⟨no, tab, t⟩ := x
      simp only at ht hn
      subst ht
      rw [parse_one, hn]
      simp only
      rcases h2 with (⟨h3, h20, rfl⟩ | ⟨h3, h20, rfl⟩) | ⟨h4, o, rfl, rfl⟩ | ⟨h5, b, o, rfl, rfl⟩ | ⟨h3, h4, h5, rfl⟩
      · rw [if_pos h3, if_neg (by omega)]
      · rw [if_pos h3, if_neg (by omega)]
      · rw [if_neg (by omega), if_pos h4]
      · rw [if_neg (by omega), if_neg (by omega), if_pos h5]
      · rw [if_neg h3, if_neg h4, if_neg h5]
/-- Two rows that are right. -/
theorem rows_law {l k : List LineI} {a b : List Nd} {m n : Int} (h1 : parseOf l = (a, 0, m)) (h2 : parseOf k = (b, 0, n)) : parseOf (l ++ k) = (a ++ b, 0, n) := by
  have e := parse_seq l k [] [] a m h1
  have e2 := parse_app k [] a [] b n h2
  rw [List.append_nil] at e2
  exact e.trans e2
def plainL (l : List LineI) : List LineI := l.filter fun x => !x.2.1
/-- Numbers are those of lines without a tab. -/
theorem nums_law : ∀ (l : List LineI) (op : List Bool) (out a : List Nd) (m : Int), parseF op out l = (a, 0, m) → a.map (·.no) = out.map (·.no) ++ (plainL l).map (·.1)
  | [], op, out, a, m, h => by
    rw [parse_nil] at h
    split at h
    · cases h; simp [plainL]
    · cases h
  | x :: l, op, out, a, m, h => by
    rcases parse_step op out x with ⟨e, h0, _, h1⟩ | ⟨n, ht, hl, hk, h1⟩ | ⟨n, op', ht, hn, h1, _⟩
    · rw [h1] at h; cases h; exact absurd rfl h0
    · rw [h1] at h
      rw [nums_law l _ _ a m h]
      have e : plainL (x :: l) = plainL l := by unfold plainL; rw [List.filter_cons, ht]; rfl
      rw [e]
      congr 1
      obtain ⟨u, hu⟩ : ∃ u, out = u ++ [n] := List.getLast?_eq_some_iff.1 hl
      rw [hu]; simp
    · rw [h1] at h
      rw [nums_law l _ _ a m h]
      have e : plainL (x :: l) = x :: plainL l := by unfold plainL; rw [List.filter_cons, ht]; rfl
      rw [e, List.map_append, List.map_cons, List.map_cons, (one_kind hn).2.2.1, List.append_assoc]; rfl
theorem kinds_law : ∀ (l : List LineI) (op : List Bool) (out a : List Nd) (m : Int), parseF op out l = (a, 0, m) → (∀ n ∈ out, 1 ≤ n.kind ∧ n.kind ≤ 6) → ∀ n ∈ a, 1 ≤ n.kind ∧ n.kind ≤ 6
  | [], op, out, a, m, h, ho => by
    rw [parse_nil] at h
    split at h
    · cases h; exact ho
    · cases h
  | x :: l, op, out, a, m, h, ho => by
    rcases parse_step op out x with ⟨e, h0, _, h1⟩ | ⟨n, ht, hl, hk, h1⟩ | ⟨n, op', ht, hn, h1, _⟩
    · rw [h1] at h; cases h; exact absurd rfl h0
    · rw [h1] at h
      refine kinds_law l _ _ a m h fun y hy => ?_
      rcases List.mem_append.1 hy with hy | hy
      · exact ho y (List.dropLast_subset _ hy)
      · rw [List.mem_singleton.1 hy]; simp only; rw [hk]; decide
    · rw [h1] at h
      refine kinds_law l _ _ a m h fun y hy => ?_
      rcases List.mem_append.1 hy with hy | hy
      · exact ho y hy
      · rw [List.mem_singleton.1 hy]; exact ⟨(one_kind hn).1, (one_kind hn).2.1⟩

/-! ### conditionals -/
structure CondOk (ks : List Int) (op : List Bool) : Prop where
  deep : ks.count 3 = ks.count 5 + op.length
  le : op.length ≤ 20
  elses : ks.count 4 + op.count false ≤ ks.count 3
  pre : ∀ i k, ks[i]? = some k → (ks.take (i + 1)).count 5 ≤ (ks.take (i + 1)).count 3 ∧ (ks.take (i + 1)).count 3 ≤ (ks.take (i + 1)).count 5 + 20 ∧ (k = 4 → (ks.take (i + 1)).count 3 ≠ (ks.take (i + 1)).count 5)
theorem CondOk.start : CondOk [] [] := ⟨rfl, by simp, by simp, by simp⟩
theorem CondOk.more {ks : List Int} {op op' : List Bool} {k : Int} (h : CondOk ks op) (h1 : (ks ++ [k]).count 3 = (ks ++ [k]).count 5 + op'.length) (h2 : op'.length ≤ 20) (h3 : (ks ++ [k]).count 4 + op'.count false ≤ (ks ++ [k]).count 3) (h4 : k = 4 → op' ≠ []) : CondOk (ks ++ [k]) op' := by
  refine ⟨h1, h2, h3, fun i j hj => ?_⟩
  by_cases hi : i < ks.length
  · rw [List.getElem?_append_left hi] at hj
    rw [List.take_append_of_le_length (by omega)]
    exact h.pre i j hj
  · have hi2 : i = ks.length := by
      have := (List.getElem?_eq_some_iff.1 hj).1
      simp at this; omega
    subst hi2
    rw [List.take_of_length_le (by simp)]
    simp at hj
    subst hj
    refine ⟨by omega, by omega, fun e he => ?_⟩
    have := List.length_pos_iff.2 (h4 e)
    omega
theorem conds_law : ∀ (l : List LineI) (op : List Bool) (out a : List Nd) (m : Int), parseF op out l = (a, 0, m) → CondOk (out.map (·.kind)) op → CondOk (a.map (·.kind)) []
  | [], op, out, a, m, h, ho => by
    rw [parse_nil] at h
    split at h
    · rename_i hop; cases h; rw [hop] at ho; exact ho
    · cases h
  | x :: l, op, out, a, m, h, ho => by
    rcases parse_step op out x with ⟨e, h0, _, h1⟩ | ⟨n, ht, hl, hk, h1⟩ | ⟨n, op', ht, hn, h1, h2⟩
    · rw [h1] at h; cases h; exact absurd rfl h0
    · rw [h1] at h
      refine conds_law l _ _ a m h ?_
      obtain ⟨u, hu⟩ : ∃ u, out = u ++ [n] := List.getLast?_eq_some_iff.1 hl
      rw [hu] at ho ⊢
      simpa using ho
    · rw [h1] at h
      refine conds_law l _ _ a m h ?_
      rw [List.map_append, List.map_cons, List.map_nil]
      have hd := ho.deep
      have he := ho.elses
      have hle := ho.le
      rcases h2 with (⟨h3, h20, rfl⟩ | ⟨h3, h20, rfl⟩) | ⟨h4, o, rfl, rfl⟩ | ⟨h5, b, o, rfl, rfl⟩ | ⟨h3, h4, h5, rfl⟩
      · rw [h3]
        exact ho.more (by simp [List.count_append]; omega) (by simp; omega) (by simp [List.count_append]; omega) (by simp)
      · omega
      · rw [h4]
        simp at hd he hle
        exact ho.more (by simp [List.count_append]; omega) (by simp; omega) (by simp [List.count_append]; omega) (by simp)
      · rw [h5]
        simp at hd he hle
        refine ho.more (by simp [List.count_append]; omega) (by omega) ?_ (by simp)
        simp [List.count_append]
        cases b <;> simp at he <;> omega
      · exact ho.more (by simp [List.count_append, h3, h5]; omega) hle (by simp [List.count_append, h3, h4]; omega) (fun e => absurd e h4)

/-! ### recipes -/
/-- Lines of a recipe, with numbers from no on. -/
def tabsL : Int → List BS → List LineI
  | _, [] => []
  | no, t :: r => (no, true, t) :: tabsL (no + 1) r
theorem tabs_law : ∀ (l : List BS) (no : Int) (n : Nd), n.kind = 2 → parseF [] [n] (tabsL no l) = ([{ n with recipe := n.recipe ++ l }], 0, 0)
  | [], no, n, _ => by
    show parseF [] [n] [] = _
    rw [parse_nil, if_pos rfl, List.append_nil]
  | t :: r, no, n, h => by
    show parseF [] [n] ((no, true, t) :: tabsL (no + 1) r) = _
    rw [parse_tab]
    simp only [List.getLast?_singleton, if_pos h]
    show parseF [] [{ n with recipe := n.recipe ++ [t] }] (tabsL (no + 1) r) = _
    rw [tabs_law r (no + 1) { n with recipe := n.recipe ++ [t] } h]
    simp
theorem alone_law (no : Int) (l : List BS) (h : l ≠ []) : parseOf (tabsL no l) = ([], 2, no) := by
  cases l with
  | nil => exact absurd rfl h
  | cons t r => show parseF [] [] ((no, true, t) :: _) = _; rw [parse_tab]; rfl
theorem name_clean {t : BS} (h : nameB t = true) : t ≠ [] ∧ t.length ≤ 40 ∧ ∀ c ∈ t, nameC c = true := by
  unfold nameB at h
  simp only [Bool.and_eq_true, decide_eq_true_eq, List.all_eq_true] at h
  exact ⟨h.1.2, h.2, h.1.1⟩
theorem nameC_ne {c : UInt8} (h : nameC c = true) : c ≠ 36 ∧ c ≠ 58 ∧ c ≠ 63 ∧ c ≠ 43 ∧ c ≠ 61 ∧ c ≠ 32 ∧ c ≠ 9 := by
  unfold nameC at h
  simp only [decide_eq_true_eq] at h
  refine ⟨?_, ?_, ?_, ?_, ?_, ?_, ?_⟩ <;> (rintro rfl; revert h; decide)
theorem nameC_blank {c : UInt8} (h : nameC c = true) : blankB c = false := by
  obtain ⟨_, _, _, _, _, h1, h2⟩ := nameC_ne h
  cases hb : blankB c with
  | false => rfl
  | true => rcases blankB_is.1 hb with e | e
            · exact absurd e h1
            · exact absurd e h2
theorem target_tight {t : BS} (h : nameB t = true) : Tight t := by
  obtain ⟨_, _, h3⟩ := name_clean h
  refine ⟨fun c hc => nameC_blank (h3 c ?_), fun c hc => nameC_blank (h3 c (List.mem_of_getLast? hc))⟩
  cases t with
  | nil => cases hc
  | cons d r => cases hc; simp
theorem target_one {t : BS} (h : nameB t = true) : oneL 1 (t ++ [58, 32, 120]) = some ⟨2, 1, [], [], [], t, [], [120], [], []⟩ := by
  obtain ⟨h1, h2, h3⟩ := name_clean h
  have ht : Tight (t ++ [58, 32, 120]) := by
    refine ⟨fun c hc => nameC_blank (h3 c ?_), fun c hc => ?_⟩
    · cases t with
      | nil => exact absurd rfl h1
      | cons d r => cases hc; simp
    · rw [List.getLast?_append] at hc
      cases hc; rfl
  have hw : wordsL (t ++ [58, 32, 120]) = [t ++ [58], [120]] := by
    have e1 : t ++ [58, 32, 120] = (t ++ [58]) ++ 32 :: [120] := by simp
    have hcl : ∀ c ∈ t ++ [58], blankB c = false := fun c hc => by
      rcases List.mem_append.1 hc with hc | hc
      · exact nameC_blank (h3 c hc)
      · rw [List.mem_singleton.1 hc]; rfl
    unfold wordsL
    rw [e1, pieces_app blankB _ 32 _ rfl, pieces_none blankB _ hcl, pieces_none blankB [120] (by decide)]
    simp
  have hne : ∀ w : BS, (∀ c ∈ w, c ≠ 58) → t ++ [58] ≠ w := fun w hc e => hc 58 (by rw [← e]; simp) rfl
  have hc : cutOf signsL (t ++ [58, 32, 120]) = (t, [58], [32, 120]) := by
    unfold cutOf
    rw [cutW_clean t _ (fun c hm => by
      obtain ⟨q1, q2, q3, q4, q5, _, _⟩ := nameC_ne (h3 c hm)
      refine ⟨q1, fun x hx => ?_⟩
      simp only [signsL, List.mem_cons, List.not_mem_nil, or_false] at hx
      rcases hx with rfl | rfl | rfl | rfl | rfl <;> simp <;> (intro e; first | exact q2 e.symm | exact q3 e.symm | exact q4 e.symm | exact q5 e.symm))]
    have e : cutW signsL [] [58, 32, 120] = ([], [58], [32, 120]) := by decide
    rw [e]; simp
  have hr : ruleL 1 t [32, 120] = some ⟨2, 1, [], [], [], t, [], [120], [], []⟩ := by
    have e1 : cutOf [[58]] [32, 120] = ([32, 120], [], []) := by decide
    have e2 : cutOf [[124]] [32, 120] = ([32, 120], [], []) := by decide
    have e3 : trimOf [32, 120] = [120] := by decide
    have e4 : trimOf ([] : BS) = [] := rfl
    have er : ruleRest [32, 120] = [32, 120] := by unfold ruleRest; rw [e1]; rfl
    have ep : rulePat [32, 120] = [] := by unfold rulePat; rw [e1]; rfl
    have eb : ruleBad t [32, 120] = false := by
      unfold ruleBad
      rw [er, e1, e2, trim_id (target_tight h)]
      simp [h1]
    unfold ruleL
    rw [eb, er, ep, e2, trim_id (target_tight h), e3, e4]
    rfl
  unfold oneL
  rw [trim_id ht, hw]
  simp only
  rw [if_neg (by rintro (e | e) <;> exact hne _ (by decide) e), if_neg (by rintro (e | e) <;> exact hne _ (by decide) e), if_neg (hne _ (by decide)), if_neg (hne _ (by decide)), if_neg (by rintro (e | e) <;> exact hne _ (by decide) e)]
  unfold eqL
  rw [hc]
  simp only
  rw [if_neg (by simp), if_pos trivial, hr]
theorem recipes_law {t : BS} (h : nameB t = true) (l : List BS) : parseOf ((1, false, t ++ [58, 32, 120]) :: tabsL 2 l) = ([⟨2, 1, [], [], [], t, [], [120], [], l⟩], 0, 0) := by
  show parseF [] [] ((1, false, t ++ [58, 32, 120]) :: tabsL 2 l) = _
  rw [parse_one, target_one h]
  simp only
  rw [if_neg (by decide), if_neg (by decide), if_neg (by decide)]
  exact tabs_law l 2 _ rfl
theorem parse_len : ∀ (l : List LineI) (op : List Bool) (out : List Nd), (parseF op out l).1.length ≤ out.length + l.length
  | [], op, out => by
    rw [parse_nil]
    split
    · simp
    · simp [badL]
  | x :: l, op, out => by
    rcases parse_step op out x with ⟨e, _, _, h1⟩ | ⟨n, _, hl, _, h1⟩ | ⟨n, op', _, _, h1, _⟩
    · rw [h1]; simp [badL]
    · rw [h1]
      have := parse_len l op (out.dropLast ++ [{ n with recipe := n.recipe ++ [x.2.2] }])
      have hne : 0 < out.length := by
        cases out with
        | nil => cases hl
        | cons a b => simp
      simp at this ⊢; omega
    · rw [h1]
      have := parse_len l op' (out ++ [n])
      simp at this ⊢; omega
theorem parse_rec : ∀ (l : List LineI) (op : List Bool) (out : List Nd) (m : Nat), (∀ x ∈ out, x.recipe.length ≤ m) → ∀ x ∈ (parseF op out l).1, x.recipe.length ≤ m + l.length
  | [], op, out, m, h, x, hx => by
    rw [parse_nil] at hx
    split at hx
    · have := h x hx; simp; omega
    · simp [badL] at hx
  | y :: l, op, out, m, h, x, hx => by
    rcases parse_step op out y with ⟨e, _, _, h1⟩ | ⟨n, _, hl, _, h1⟩ | ⟨n, op', _, hn, h1, _⟩
    · rw [h1] at hx; simp [badL] at hx
    · rw [h1] at hx
      have := parse_rec l op _ (m + 1) (fun z hz => by
        rcases List.mem_append.1 hz with hz | hz
        · exact Nat.le_succ_of_le (h z (List.dropLast_subset _ hz))
        · rw [List.mem_singleton.1 hz]
          have := h n (List.mem_of_getLast? hl)
          simp; omega) x hx
      simp; omega
    · rw [h1] at hx
      have := parse_rec l op' _ (m + 1) (fun z hz => by
        rcases List.mem_append.1 hz with hz | hz
        · exact Nat.le_succ_of_le (h z hz)
        · rw [List.mem_singleton.1 hz, (one_kind hn).2.2.2]; simp) x hx
      simp; omega
end Go.Proofs.YtldddecaeloohaaDoor
