/-
  What the program's Parse tells: of what is wrong, a line of no form is told ahead of a conditional that is too deep; where nothing is wrong, it is the chapter's model. No program, no world. No condition.
-/
import Derived.Test.YtldddecaeloohaaDoorPL
namespace Go.Proofs.YtldddecaeloohaaDoor

/-- op: of each If that is open, the last one first: had it an Else? dp: the line of the first If that was too deep. -/
def parseG : List Bool → Option Int → List Nd → List LineI → Parsed
  | op, dp, out, [] => match dp with
    | some a => badL 15 a
    | none => if op = [] then (out, 0, 0) else badL 14 0
  | op, dp, out, (no, true, t) :: r =>
    match out.getLast? with
    | some n => if n.kind = 2 then parseG op dp (out.dropLast ++ [{ n with recipe := n.recipe ++ [t] }]) r else badL 2 no
    | none => badL 2 no
  | op, dp, out, (no, false, t) :: r =>
    match oneL no t with
    | none => badL 2 no
    | some n =>
      if n.kind = 3 then parseG (false :: op) (if op.length = 20 ∧ dp = none then some no else dp) (out ++ [n]) r
      else if n.kind = 4 then (match op with
        | false :: o => parseG (true :: o) dp (out ++ [n]) r
        | _ => badL 2 no)
      else if n.kind = 5 then (match op with
        | _ :: o => parseG o dp (out ++ [n]) r
        | [] => badL 2 no)
      else parseG op dp (out ++ [n]) r
def parseP (l : List LineI) : Parsed := parseG [] none [] l
section
variable {op : List Bool} {dp : Option Int} {out : List Nd} {no : Int} {t : BS} {r : List LineI}
theorem parseG_tab : parseG op dp out ((no, true, t) :: r) = (match out.getLast? with
    | some n => if n.kind = 2 then parseG op dp (out.dropLast ++ [{ n with recipe := n.recipe ++ [t] }]) r else badL 2 no
    | none => badL 2 no) := by conv => lhs; unfold parseG
theorem parseG_one : parseG op dp out ((no, false, t) :: r) = (match oneL no t with
    | none => badL 2 no
    | some n =>
      if n.kind = 3 then parseG (false :: op) (if op.length = 20 ∧ dp = none then some no else dp) (out ++ [n]) r
      else if n.kind = 4 then (match op with
        | false :: o => parseG (true :: o) dp (out ++ [n]) r
        | _ => badL 2 no)
      else if n.kind = 5 then (match op with
        | _ :: o => parseG o dp (out ++ [n]) r
        | [] => badL 2 no)
      else parseG op dp (out ++ [n]) r) := by conv => lhs; unfold parseG
theorem parseG_nil : parseG op dp out [] = (match dp with
    | some a => badL 15 a
    | none => if op = [] then (out, 0, 0) else badL 14 0) := by unfold parseG; rfl
end
theorem parseG_deep (a : Int) : ∀ (l : List LineI) (op : List Bool) (out : List Nd), parseG op (some a) out l = badL 15 a ∨ ∃ no, parseG op (some a) out l = badL 2 no
  | [], _, _ => by rw [parseG_nil]; exact .inl rfl
  | (no, true, t) :: r, op, out => by
    rw [parseG_tab]
    split
    · split
      · exact parseG_deep a r _ _
      · exact .inr ⟨_, rfl⟩
    · exact .inr ⟨_, rfl⟩
  | (no, false, t) :: r, op, out => by
    rw [parseG_one]
    split
    · exact .inr ⟨_, rfl⟩
    · split
      · rw [if_neg (by simp)]
        exact parseG_deep a r _ _
      split
      · split
        · exact parseG_deep a r _ _
        · exact .inr ⟨_, rfl⟩
      split
      · split
        · exact parseG_deep a r _ _
        · exact .inr ⟨_, rfl⟩
      · exact parseG_deep a r _ _
theorem parseG_near : ∀ (l : List LineI) (op : List Bool) (out : List Nd), parseG op none out l = parseF op out l ∨ ∃ a no, parseF op out l = badL 15 a ∧ parseG op none out l = badL 2 no
  | [], _, _ => by rw [parseG_nil, parse_nil]; exact .inl rfl
  | (no, true, t) :: r, op, out => by
    rw [parseG_tab, parse_tab]
    cases out.getLast? with
    | none => exact .inl rfl
    | some n =>
      by_cases hk : n.kind = 2
      · simp only [if_pos hk]
        exact parseG_near r _ _
      · simp only [if_neg hk]
        exact .inl trivial
  | (no, false, t) :: r, op, out => by
    rw [parseG_one, parse_one]
    cases oneL no t with
    | none => exact .inl rfl
    | some n =>
      by_cases h3 : n.kind = 3
      · simp only [if_pos h3]
        by_cases hd : op.length = 20
        · rw [if_pos ⟨hd, trivial⟩, if_pos hd]
          rcases parseG_deep no r (false :: op) (out ++ [n]) with h | ⟨n2, h⟩
          · exact .inl h
          · exact .inr ⟨_, _, rfl, h⟩
        · rw [if_neg (fun h => hd h.1), if_neg hd]
          exact parseG_near r _ _
      by_cases h4 : n.kind = 4
      · simp only [if_neg h3, if_pos h4]
        match op with
        | [] => exact .inl rfl
        | true :: _ => exact .inl rfl
        | false :: o => exact parseG_near r _ _
      by_cases h5 : n.kind = 5
      · simp only [if_neg h3, if_neg h4, if_pos h5]
        match op with
        | [] => exact .inl rfl
        | _ :: o => exact parseG_near r _ _
      · simp only [if_neg h3, if_neg h4, if_neg h5]
        exact parseG_near r _ _
theorem parseP_near (l : List LineI) : parseP l = parseOf l ∨ ∃ a no, parseOf l = badL 15 a ∧ parseP l = badL 2 no := parseG_near l [] []
theorem parseP_right {l : List LineI} (h : (parseOf l).2.1 ≠ 15) : parseP l = parseOf l := by
  rcases parseP_near l with h1 | ⟨a, no, h1, _⟩
  · exact h1
  · rw [h1] at h; exact absurd rfl h
theorem parseP_ok {l : List LineI} (h : (parseP l).2.1 ≠ 2) : parseP l = parseOf l := by
  rcases parseP_near l with h1 | ⟨a, no, _, h1⟩
  · exact h1
  · rw [h1] at h; exact absurd rfl h
theorem parseP_err {l : List LineI} (h : (parseP l).2.1 ≠ 0) : (parseP l).1 = [] := by
  rcases parseP_near l with h1 | ⟨a, no, _, h1⟩
  · rw [h1] at h ⊢; exact parse_err l [] [] h
  · rw [h1]; rfl
theorem parseP_no {l : List LineI} (h : (parseP l).2.1 = 0 ∨ (parseP l).2.1 = 14) : (parseP l).2.2 = 0 := by
  have h1 := parseP_ok (l := l) (by omega)
  rw [h1] at h ⊢; exact parse_no l [] [] h
theorem parseP_few (l : List LineI) : (parseP l).1.length ≤ l.length := by
  rcases parseP_near l with h1 | ⟨a, no, _, h1⟩
  · rw [h1]
    have := parse_len l [] []
    unfold parseOf
    simpa using this
  · rw [h1]; exact Nat.zero_le _
end Go.Proofs.YtldddecaeloohaaDoor
