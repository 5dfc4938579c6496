/-
  Chapter 8 in plain words: what a text's lines come to; no program, no world. No condition.
-/
import Derived.Test.YtldddecaeloohaaDoorEP
namespace Go.Proofs.YtldddecaeloohaaDoor

def strokeB (c : UInt8) : Bool := decide (c.toNat = 92)
def hashB (c : UInt8) : Bool := decide (c.toNat = 35)
theorem strokeB_is {c : UInt8} : strokeB c = true ↔ c = 92 := by
  simp only [strokeB, decide_eq_true_eq]
  exact ⟨fun h => UInt8.toNat_inj.1 (by rw [h]; rfl), fun h => by rw [h]; rfl⟩
theorem hashB_is {c : UInt8} : hashB c = true ↔ c = 35 := by
  simp only [hashB, decide_eq_true_eq]
  exact ⟨fun h => UInt8.toNat_inj.1 (by rw [h]; rfl), fun h => by rw [h]; rfl⟩
/-- How many strokes stand at the end; are they odd? -/
def strokes (l : BS) : Nat := (l.reverse.takeWhile strokeB).length
def oddB (l : BS) : Bool := decide (strokes l % 2 = 1)
/-- Two lines put together; without a comment; does it begin with a tab? -/
def joinL (a b : BS) : BS := cutR a.dropLast ++ 32 :: cutL b
def bareL (l : BS) : BS := l.takeWhile fun c => !hashB c
def tabL (l : BS) : Bool := l.head? == some 9
def textL (tab : Bool) (l : BS) : BS := trimOf (if tab then l else bareL l)
/-- A line, with those that it goes on with, and how many those are. -/
def glue : BS → List BS → BS × Nat
  | a, [] => (if oddB a then a.dropLast else a, 0)
  | a, b :: r => if oddB a then ((glue (joinL a b) r).1, (glue (joinL a b) r).2 + 1) else (a, 0)
theorem glue_le : ∀ (r : List BS) (a : BS), (glue a r).2 ≤ r.length
  | [], _ => Nat.le_refl 0
  | b :: r, a => by
    unfold glue
    split
    · have := glue_le r (joinL a b); simpa using this
    · simp
theorem glue_even {a : BS} (h : oddB a = false) (r : List BS) : glue a r = (a, 0) := by
  cases r with
  | nil => unfold glue; rw [h]; rfl
  | cons b r => unfold glue; rw [h]; rfl
theorem glue_odd {a b : BS} (h : oddB a = true) (r : List BS) : glue a (b :: r) = ((glue (joinL a b) r).1, (glue (joinL a b) r).2 + 1) := by
  conv => lhs; unfold glue
  rw [if_pos h]
theorem glue_last {a : BS} (h : oddB a = true) : glue a [] = (a.dropLast, 0) := by unfold glue; rw [if_pos h]
abbrev Item := Nat × Bool × BS
/-- What the lines come to, the first one of which has the number no. -/
def itemsL : Nat → List BS → List Item
  | _, [] => []
  | no, a :: r =>
    if textL (tabL a) (glue a r).1 = [] then itemsL (no + 1 + (glue a r).2) (r.drop (glue a r).2)
    else (no, tabL a, textL (tabL a) (glue a r).1) :: itemsL (no + 1 + (glue a r).2) (r.drop (glue a r).2)
termination_by _ l => l.length
decreasing_by all_goals (simp only [List.length_drop, List.length_cons]; omega)
theorem items_nil (no : Nat) : itemsL no [] = [] := by unfold itemsL; rfl
theorem items_none {no : Nat} {a : BS} {r : List BS} (h : textL (tabL a) (glue a r).1 = []) : itemsL no (a :: r) = itemsL (no + 1 + (glue a r).2) (r.drop (glue a r).2) := by
  conv => lhs; unfold itemsL
  rw [if_pos h]
theorem items_some {no : Nat} {a : BS} {r : List BS} (h : textL (tabL a) (glue a r).1 ≠ []) :
    itemsL no (a :: r) = (no, tabL a, textL (tabL a) (glue a r).1) :: itemsL (no + 1 + (glue a r).2) (r.drop (glue a r).2) := by
  conv => lhs; unfold itemsL
  rw [if_neg h]
/-- The number of the first one that is too long, or one too many. -/
def scanL : Nat → List Item → Option Nat
  | _, [] => none
  | n, x :: r => if 1000 < x.2.2.length ∨ 300 ≤ n then some x.1 else scanL (n + 1) r
/-- What Lex tells: the lines, what is wrong, and where. -/
def lexOf (s : BS) : List Item × Int × Nat :=
  match scanL 0 (itemsL 1 (linesL s)) with
  | none => (itemsL 1 (linesL s), 0, 0)
  | some n => ([], 3, n)
theorem lex_ok {s : BS} (h : scanL 0 (itemsL 1 (linesL s)) = none) : lexOf s = (itemsL 1 (linesL s), 0, 0) := by unfold lexOf; rw [h]
theorem lex_err {s : BS} {n : Nat} (h : scanL 0 (itemsL 1 (linesL s)) = some n) : lexOf s = ([], 3, n) := by unfold lexOf; rw [h]

/-! ### strokes -/
theorem strokes_none {l : BS} (h : ∀ c, l.getLast? = some c → c ≠ 92) : strokes l = 0 := by
  rcases List.eq_nil_or_concat l with rfl | ⟨a, c, rfl⟩
  · rfl
  · rw [List.concat_eq_append] at h ⊢
    have hc : strokeB c = false := by
      cases hs : strokeB c with
      | false => rfl
      | true => exact absurd (strokeB_is.1 hs) (h c (by simp))
    unfold strokes
    rw [List.reverse_append]
    simp [hc]
theorem odd_none {l : BS} (h : ∀ c ∈ l, c ≠ 92) : oddB l = false := by
  have : strokes l = 0 := strokes_none fun c hc => h c (List.mem_of_getLast? hc)
  unfold oddB
  rw [this]; rfl
theorem odd_one {l : BS} (c : UInt8) (h : c ≠ 92) : oddB (l ++ [c, 92]) = true := by
  have hc : strokeB c = false := by
    cases hs : strokeB c with
    | false => rfl
    | true => exact absurd (strokeB_is.1 hs) h
  have : strokes (l ++ [c, 92]) = 1 := by
    unfold strokes
    rw [List.reverse_append]
    simp [hc, List.takeWhile, show strokeB 92 = true from rfl]
  unfold oddB
  rw [this]; rfl
/-- Strokes at the end of what has a byte more that is none. -/
theorem strokes_mid (x y : BS) (c : UInt8) (h : c ≠ 92) : strokes (x ++ c :: y) = strokes y := by
  have hc : strokeB c = false := by
    cases hs : strokeB c with
    | false => rfl
    | true => exact absurd (strokeB_is.1 hs) h
  unfold strokes
  rw [List.reverse_append, List.reverse_cons, List.append_assoc, List.takeWhile_append]
  split
  · rename_i he
    simp [hc]
    rw [he, List.length_reverse]
  · rfl
theorem strokes_cutL (y : BS) : strokes (cutL y) = strokes y := by
  induction y with
  | nil => rfl
  | cons c r ih =>
    rw [cutL_cons]
    split
    · rename_i hb
      have hc : c ≠ 92 := by rcases blankB_is.1 hb with rfl | rfl <;> decide
      rw [ih]
      exact (strokes_mid [] r c hc).symm
    · rfl
/-- What was put together goes on just if the line that was put on does. -/
theorem odd_join (a b : BS) : oddB (joinL a b) = oddB b := by
  have : strokes (joinL a b) = strokes b := by
    unfold joinL
    rw [strokes_mid _ _ 32 (by decide), strokes_cutL]
  unfold oddB
  rw [this]

/-! ### what all lines that are told have -/
theorem dropLast_sub (l : BS) : ∀ c ∈ l.dropLast, c ∈ l := fun _ h => List.dropLast_subset _ h
theorem glue_sub (P : UInt8 → Prop) (h32 : P 32) : ∀ (r : List BS) (a : BS), (∀ c ∈ a, P c) → (∀ l ∈ r, ∀ c ∈ l, P c) → ∀ c ∈ (glue a r).1, P c
  | [], a, ha, _ => by
    unfold glue
    split
    · exact fun c hc => ha c (dropLast_sub a c hc)
    · exact ha
  | b :: r, a, ha, hr => by
    unfold glue
    split
    · refine glue_sub P h32 r (joinL a b) (fun c hc => ?_) (fun l hl => hr l (List.mem_cons_of_mem _ hl))
      unfold joinL at hc
      rcases List.mem_append.1 hc with hc | hc
      · exact ha c (dropLast_sub a c (cutR_sub _ c hc))
      · rcases List.mem_cons.1 hc with rfl | hc
        · exact h32
        · exact hr b (by simp) c (cutL_sub _ c hc)
    · exact ha
theorem bare_sub (l : BS) : ∀ c ∈ bareL l, c ∈ l := fun _ h => (List.takeWhile_sublist _).subset h
theorem bare_cons (c : UInt8) (r : BS) : bareL (c :: r) = if c = 35 then [] else c :: bareL r := by
  unfold bareL
  rw [List.takeWhile_cons]
  by_cases h : c = 35
  · rw [hashB_is.2 h, if_pos h]; rfl
  · have hb : hashB c = false := by
      cases hs : hashB c with
      | false => rfl
      | true => exact absurd (hashB_is.1 hs) h
    rw [hb, if_neg h]; rfl
theorem bare_clean (l : BS) : ∀ c ∈ bareL l, c ≠ 35 := by
  induction l with
  | nil => intro c hc; cases hc
  | cons x r ih =>
    intro c hc
    rw [bare_cons] at hc
    split at hc
    · cases hc
    · rename_i hx
      rcases List.mem_cons.1 hc with rfl | hc
      · exact hx
      · exact ih c hc
/-- A line that is told. -/
structure Told (lo hi : Nat) (x : Item) : Prop where
  lo : lo ≤ x.1
  hi : x.1 < hi
  some : x.2.2 ≠ []
  tight : Tight x.2.2
  clean : ∀ c ∈ x.2.2, c ≠ 10
  bare : x.2.1 = false → ∀ c ∈ x.2.2, c ≠ 35
theorem items_told : ∀ (n : Nat) (ls : List BS) (no : Nat), ls.length ≤ n → (∀ l ∈ ls, ∀ c ∈ l, c ≠ 10) → (∀ x ∈ itemsL no ls, Told no (no + ls.length) x) ∧ (itemsL no ls).Pairwise fun x y => x.1 < y.1
  | _, [], no, _, _ => by rw [items_nil]; exact ⟨fun x hx => by simp at hx, List.Pairwise.nil⟩
  | 0, a :: r, _, h, _ => by simp at h
  | n + 1, a :: r, no, h, hc => by
    have hg := glue_le r a
    have hr : ∀ l ∈ r, ∀ c ∈ l, c ≠ 10 := fun l hl => hc l (List.mem_cons_of_mem _ hl)
    have hl : (r.drop (glue a r).2).length = r.length - (glue a r).2 := List.length_drop
    obtain ⟨h1, h2⟩ := items_told n (r.drop (glue a r).2) (no + 1 + (glue a r).2) (by rw [hl]; simp at h; omega) (fun l hl => hr l (List.mem_of_mem_drop hl))
    have h1' : ∀ x ∈ itemsL (no + 1 + (glue a r).2) (r.drop (glue a r).2), Told (no + 1) (no + (a :: r).length) x := fun x hx => by
      have q := h1 x hx
      exact ⟨by have := q.lo; omega, by have := q.hi; rw [hl] at this; simp; omega, q.some, q.tight, q.clean, q.bare⟩
    by_cases ht : textL (tabL a) (glue a r).1 = []
    · rw [items_none ht]
      exact ⟨fun x hx => by have q := h1' x hx; exact ⟨by have := q.lo; omega, q.hi, q.some, q.tight, q.clean, q.bare⟩, h2⟩
    · rw [items_some ht]
      have hgc : ∀ c ∈ (glue a r).1, c ≠ 10 := glue_sub (fun c => c ≠ 10) (by decide) r a (hc a (by simp)) hr
      refine ⟨fun x hx => ?_, List.Pairwise.cons (fun y hy => ?_) h2⟩
      · rcases List.mem_cons.1 hx with rfl | hx
        · refine ⟨Nat.le_refl _, by simp, ht, trim_tight _, fun c hcm => ?_, fun hb c hcm => ?_⟩
          · have hcm' := trim_sub _ c hcm
            split at hcm'
            · exact hgc c hcm'
            · exact hgc c (bare_sub _ c hcm')
          · have hcm' := trim_sub _ c hcm
            simp only at hb
            rw [hb] at hcm'
            exact bare_clean _ c hcm'
        · have q := h1' x hx
          exact ⟨by have := q.lo; omega, q.hi, q.some, q.tight, q.clean, q.bare⟩
      · have := (h1' y hy).lo
        show no < y.1
        omega

/-! ### what is scanned -/
theorem scan_none : ∀ {l : List Item} {n : Nat}, scanL n l = none → (∀ x ∈ l, x.2.2.length ≤ 1000) ∧ (l ≠ [] → n + l.length ≤ 300)
  | [], _, _ => ⟨by simp, by simp⟩
  | x :: r, n, h => by
    unfold scanL at h
    split at h
    · cases h
    · rename_i hx
      obtain ⟨h1, h2⟩ := scan_none h
      refine ⟨fun y hy => ?_, fun _ => ?_⟩
      · rcases List.mem_cons.1 hy with rfl | hy
        · omega
        · exact h1 y hy
      · rw [List.length_cons]
        by_cases hr : r = []
        · subst hr; simp; omega
        · have := h2 hr; omega
theorem scan_some : ∀ {l : List Item} {n m : Nat}, scanL n l = some m → ∃ x ∈ l, x.1 = m
  | [], _, _, h => by cases h
  | x :: r, n, m, h => by
    unfold scanL at h
    split at h
    · cases h; exact ⟨x, by simp, rfl⟩
    · obtain ⟨y, hy, e⟩ := scan_some h
      exact ⟨y, List.mem_cons_of_mem _ hy, e⟩
theorem scan_app : ∀ (l r : List Item) (n : Nat), scanL n l = none → scanL n (l ++ r) = scanL (n + l.length) r
  | [], _, _, _ => rfl
  | x :: l, r, n, h => by
    unfold scanL at h
    split at h
    · cases h
    · rename_i hx
      rw [List.cons_append, scanL, if_neg hx, scan_app l r (n + 1) h, List.length_cons]
      congr 1
      omega
/-- Numbers do not matter: what is wrong is so with other ones. -/
theorem scan_same : ∀ {l r : List Item} (n : Nat), l.map Prod.snd = r.map Prod.snd → (scanL n l).isSome = (scanL n r).isSome
  | [], [], _, _ => rfl
  | [], _ :: _, _, h => by simp at h
  | _ :: _, [], _, h => by simp at h
  | x :: l, y :: r, n, h => by
    simp only [List.map_cons, List.cons.injEq] at h
    unfold scanL
    rw [h.1]
    split
    · rfl
    · exact scan_same (n + 1) h.2
theorem items_shift : ∀ (n : Nat) (ls : List BS) (no no' : Nat), ls.length ≤ n → (itemsL no ls).map Prod.snd = (itemsL no' ls).map Prod.snd
  | _, [], _, _, _ => by rw [items_nil, items_nil]
  | 0, _ :: _, _, _, h => by simp at h
  | n + 1, a :: r, no, no', h => by
    have hg := glue_le r a
    have ih := items_shift n (r.drop (glue a r).2) (no + 1 + (glue a r).2) (no' + 1 + (glue a r).2) (by rw [List.length_drop]; simp at h; omega)
    by_cases ht : textL (tabL a) (glue a r).1 = []
    · rw [items_none ht, items_none ht]; exact ih
    · rw [items_some ht, items_some ht, List.map_cons, List.map_cons, ih]
/-- Lines that do not go on. -/
theorem items_app : ∀ (P Q : List BS) (no : Nat), (∀ l ∈ P, oddB l = false) → itemsL no (P ++ Q) = itemsL no P ++ itemsL (no + P.length) Q
  | [], _, _, _ => by rw [items_nil]; rfl
  | a :: P, Q, no, h => by
    have ha := h a (by simp)
    have ih := items_app P Q (no + 1) (fun l hl => h l (List.mem_cons_of_mem _ hl))
    have g1 := glue_even ha P
    have g2 := glue_even ha (P ++ Q)
    by_cases ht : textL (tabL a) a = []
    · rw [List.cons_append, items_none (by rw [g2]; exact ht), items_none (by rw [g1]; exact ht), g1, g2]
      simp only [List.drop_zero, Nat.add_zero, List.length_cons]
      rw [ih]
      congr 2
      omega
    · rw [List.cons_append, items_some (by rw [g2]; exact ht), items_some (by rw [g1]; exact ht), g1, g2]
      simp only [List.drop_zero, Nat.add_zero, List.length_cons, List.cons_append]
      rw [ih]
      congr 3
      omega
theorem lex_same {s t : BS} (h : (itemsL 1 (linesL s)).map Prod.snd = (itemsL 1 (linesL t)).map Prod.snd) : (lexOf s).2.1 = (lexOf t).2.1 ∧ (lexOf s).1.map Prod.snd = (lexOf t).1.map Prod.snd := by
  have hs := scan_same 0 h
  cases h1 : scanL 0 (itemsL 1 (linesL s)) with
  | none =>
    rw [h1] at hs
    cases h2 : scanL 0 (itemsL 1 (linesL t)) with
    | none => rw [lex_ok h1, lex_ok h2]; exact ⟨rfl, h⟩
    | some n => rw [h2] at hs; cases hs
  | some m =>
    rw [h1] at hs
    cases h2 : scanL 0 (itemsL 1 (linesL t)) with
    | none => rw [h2] at hs; cases hs
    | some n => rw [lex_err h1, lex_err h2]; exact ⟨rfl, rfl⟩

end Go.Proofs.YtldddecaeloohaaDoor
