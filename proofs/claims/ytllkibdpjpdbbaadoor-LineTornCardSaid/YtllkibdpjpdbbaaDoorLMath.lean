/-
  Plain words on lines: what a line of texts is, what is taken of a text, what is scanned; that what is put is taken; what cut lines come to. No program, no world.
-/
import Derived.Test.YtllkibdpjpdbbaaDoorLQmath
import Derived.Test.YtllkibdpjpdbbaaDoorLSMath
namespace Go.Proofs.YtllkibdpjpdbbaaDoor
open Go.RowKit

def sp32 (c : UInt8) : Bool := decide (c.toNat = 32)
def hexB (c : UInt8) : Bool := decide (48 ≤ c.toNat ∧ c.toNat ≤ 57 ∨ 97 ≤ c.toNat ∧ c.toNat ≤ 102)

/-- The text that a word is the quoted form of, if there is one. -/
noncomputable def unqO (l : List UInt8) : Option (List UInt8) := open Classical in if h : ∃ t, quoteOf t = l then some (Classical.choose h) else none
theorem unq_quote (t : List UInt8) : unqO (quoteOf t) = some t := by
  have h : ∃ u, quoteOf u = quoteOf t := ⟨t, rfl⟩
  unfold unqO
  rw [dif_pos h]
  exact congrArg some (quote_inj _ _ (Classical.choose_spec h))
theorem unq_some {l t : List UInt8} (h : unqO l = some t) : quoteOf t = l := by
  unfold unqO at h
  split at h
  · rename_i hx
    rw [← Option.some.inj h]; exact Classical.choose_spec hx
  · cases h
theorem unq_none {l : List UInt8} (h : unqO l = none) (t : List UInt8) : quoteOf t ≠ l := by
  intro e
  rw [← e, unq_quote] at h; cases h

/-- Quoted texts, a blank behind each; the sum's digits; the line. -/
def bodyOf (xs : List (List UInt8)) : List UInt8 := xs.flatMap fun x => quoteOf x ++ [32]
def sealOf (b : List UInt8) : List UInt8 := hexN (addN 1 b)
def lineOf (xs : List (List UInt8)) : List UInt8 := bodyOf xs ++ sealOf (bodyOf xs) ++ [10]
def Fit (xs : List (List UInt8)) : Prop := 1 ≤ xs.length ∧ xs.length ≤ 40 ∧ (bodyOf xs).length ≤ 12991

theorem body_nil : bodyOf [] = [] := rfl
theorem body_snoc (xs : List (List UInt8)) (x : List UInt8) : bodyOf (xs ++ [x]) = bodyOf xs ++ quoteOf x ++ [32] := by simp [bodyOf]
theorem body_cons (x : List UInt8) (xs : List (List UInt8)) : bodyOf (x :: xs) = quoteOf x ++ 32 :: bodyOf xs := by simp [bodyOf]
theorem seal_len (b : List UInt8) : (sealOf b).length = 8 := digs_len _ _
theorem line_len (xs : List (List UInt8)) : (lineOf xs).length = (bodyOf xs).length + 9 := by
  simp only [lineOf, List.length_append, seal_len, List.length_cons, List.length_nil]

/-- The texts of a body: words, each quoted, each with a blank behind it, 1 to 40. -/
noncomputable def formOf (b : List UInt8) : Option (List (List UInt8)) :=
  if (pieces sp32 b).getLast? = some [] ∧ 2 ≤ (pieces sp32 b).length ∧ (pieces sp32 b).length ≤ 41 then (pieces sp32 b).dropLast.mapM unqO else none

theorem sign_not_sp {c : UInt8} (h : signB c = true) : sp32 c = false := by
  simp only [signB, Bool.or_eq_true, decide_eq_true_eq] at h
  simp only [sp32, decide_eq_false_iff_not]
  rcases h with h | h
  · have := plain_cases h; omega
  · omega
theorem quote_no_sp (t : List UInt8) : ∀ c ∈ quoteOf t, sp32 c = false := fun c h => sign_not_sp (quote_signs t c h)
theorem pieces_sep (p : UInt8 → Bool) (a : List UInt8) (c : UInt8) (b : List UInt8) (hc : p c = true) : pieces p (a ++ c :: b) = pieces p a ++ pieces p b := by
  induction a with
  | nil => simp [pieces, hc]
  | cons x a ih =>
    simp only [List.cons_append, pieces, ih]
    split
    · simp
    · cases h : pieces p a with
      | nil => exact absurd h (pieces_ne p a)
      | cons y z => simp
theorem pieces_body (xs : List (List UInt8)) : pieces sp32 (bodyOf xs) = xs.map quoteOf ++ [[]] := by
  induction xs with
  | nil => rfl
  | cons x r ih =>
    rw [body_cons, pieces_sep sp32 _ 32 _ (by decide), ih, pieces_none sp32 _ (quote_no_sp x)]
    rfl
theorem map_unq (xs : List (List UInt8)) : (xs.map quoteOf).mapM unqO = some xs := by
  induction xs with
  | nil => rfl
  | cons x r ih => simp [List.mapM_cons, ih, unq_quote]
theorem form_body (xs : List (List UInt8)) (h1 : 1 ≤ xs.length) (h2 : xs.length ≤ 40) : formOf (bodyOf xs) = some xs := by
  unfold formOf
  rw [pieces_body, if_pos ⟨by simp, by simp; omega, by simp; omega⟩, List.dropLast_concat, map_unq]

theorem unq_map : ∀ (ws : List (List UInt8)) (xs : List (List UInt8)), ws.mapM unqO = some xs → ws = xs.map quoteOf
  | [], xs, h => by simp at h; subst h; rfl
  | w :: r, xs, h => by
    simp only [List.mapM_cons, Option.bind_eq_bind, Option.pure_def, Option.bind_eq_some_iff] at h
    obtain ⟨t, h1, ts, h2, h3⟩ := h
    cases h3
    rw [List.map_cons, ← unq_map r ts h2, unq_some h1]
/-- Pieces put together again. -/
def joinSp : List (List UInt8) → List UInt8
  | [] => []
  | [a] => a
  | a :: r => a ++ 32 :: joinSp r
theorem join_pieces (l : List UInt8) : joinSp (pieces sp32 l) = l := by
  induction l with
  | nil => rfl
  | cons c r ih =>
    simp only [pieces]
    split
    · rename_i hc
      have : c = 32 := UInt8.toNat_inj.1 (by simpa [sp32] using hc)
      subst this
      cases h : pieces sp32 r with
      | nil => exact absurd h (pieces_ne _ _)
      | cons a t => rw [h] at ih; show [] ++ 32 :: joinSp (a :: t) = _; rw [ih]; rfl
    · cases h : pieces sp32 r with
      | nil => exact absurd h (pieces_ne _ _)
      | cons a t =>
        rw [h] at ih
        cases t with
        | nil => simp only [joinSp] at ih ⊢; rw [ih]
        | cons b u => simp only [joinSp] at ih ⊢; rw [List.cons_append, ih]
theorem join_body : ∀ xs : List (List UInt8), joinSp (xs.map quoteOf ++ [[]]) = bodyOf xs
  | [] => rfl
  | [x] => by simp [joinSp, bodyOf]
  | x :: y :: r => by
    have := join_body (y :: r)
    simp only [List.map_cons, List.cons_append, joinSp] at this ⊢
    rw [this, body_cons x]
theorem form_some {b : List UInt8} {xs : List (List UInt8)} (h : formOf b = some xs) : b = bodyOf xs ∧ 1 ≤ xs.length ∧ xs.length ≤ 40 := by
  unfold formOf at h
  split at h
  · rename_i hc
    obtain ⟨h1, h2, h3⟩ := hc
    have hw := unq_map _ _ h
    have hp : pieces sp32 b = xs.map quoteOf ++ [[]] := by
      rw [← hw]
      obtain ⟨i, hi⟩ : ∃ i, pieces sp32 b = i ++ [[]] := by
        rcases List.eq_nil_or_concat (pieces sp32 b) with e | ⟨i, a, e⟩
        · exact absurd e (pieces_ne _ _)
        · rw [List.concat_eq_append] at e
          rw [e, List.getLast?_concat] at h1
          cases h1
          exact ⟨i, e⟩
      rw [hi, List.dropLast_concat]
    refine ⟨?_, ?_, ?_⟩
    · rw [← join_pieces b, hp, join_body]
    · rw [hp] at h2; simp at h2; omega
    · rw [hp] at h3; simp at h3; omega
  · cases h

/-- What is taken of a text: one of three errors, or the texts and what is behind. -/
abbrev TakeR := Option (Option (Option (List (List UInt8) × List UInt8)))
abbrev TakeR.short : TakeR := none
abbrev TakeR.form : TakeR := some none
abbrev TakeR.sum : TakeR := some (some none)
abbrev TakeR.ok (xs : List (List UInt8)) (rest : List UInt8) : TakeR := some (some (some (xs, rest)))
theorem take_kinds (t : TakeR) : t = .short ∨ t = .form ∨ t = .sum ∨ ∃ xs r, t = .ok xs r := by
  cases t with
  | none => exact .inl rfl
  | some t => cases t with
    | none => exact .inr (.inl rfl)
    | some t => cases t with
      | none => exact .inr (.inr (.inl rfl))
      | some p => obtain ⟨xs, r⟩ := p; exact .inr (.inr (.inr ⟨xs, r, rfl⟩))
def headOf (s : List UInt8) : List UInt8 := s.takeWhile fun c => !nlB c
noncomputable def takeOf (s : List UInt8) : TakeR :=
  if (headOf s).length = s.length then .short
  else if (headOf s).length < 8 ∨ 13000 ≤ (headOf s).length ∨ ((headOf s).drop ((headOf s).length - 8)).all hexB = false then .form
  else match formOf ((headOf s).take ((headOf s).length - 8)) with
    | none => .form
    | some xs => if sealOf ((headOf s).take ((headOf s).length - 8)) = (headOf s).drop ((headOf s).length - 8) then .ok xs (s.drop ((headOf s).length + 1)) else .sum

theorem head_le (s : List UInt8) : (headOf s).length ≤ s.length := by
  have := List.takeWhile_prefix (fun c => !nlB c) (l := s)
  exact this.length_le
theorem head_no (s : List UInt8) : ∀ c ∈ headOf s, nlB c = false := by
  intro c hc
  induction s with
  | nil => cases hc
  | cons x r ih =>
    unfold headOf at hc ih
    rw [List.takeWhile_cons] at hc
    split at hc
    · rename_i hx
      rcases List.mem_cons.1 hc with rfl | h
      · simpa using hx
      · exact ih h
    · cases hc
theorem head_cut (a r : List UInt8) (h : ∀ c ∈ a, nlB c = false) : headOf (a ++ 10 :: r) = a := by
  induction a with
  | nil => rfl
  | cons c a ih =>
    have h1 := h c (by simp)
    have h2 := ih (fun x hx => h x (by simp [hx]))
    unfold headOf at h2 ⊢
    rw [List.cons_append, List.takeWhile_cons, h1]
    simp only [Bool.not_false, if_true]
    rw [h2]
theorem head_none (a : List UInt8) (h : ∀ c ∈ a, nlB c = false) : headOf a = a := by
  induction a with
  | nil => rfl
  | cons c a ih =>
    have h1 := h c (by simp)
    have h2 := ih (fun x hx => h x (by simp [hx]))
    unfold headOf at h2 ⊢
    rw [List.takeWhile_cons, h1]
    simp only [Bool.not_false, if_true]
    rw [h2]
theorem head_split (s : List UInt8) (h : (headOf s).length ≠ s.length) : s = headOf s ++ 10 :: s.drop ((headOf s).length + 1) := by
  induction s with
  | nil => exact absurd rfl h
  | cons c r ih =>
    by_cases hc : nlB c = true
    · have e : headOf (c :: r) = [] := by unfold headOf; rw [List.takeWhile_cons, hc]; rfl
      have : c = 10 := UInt8.toNat_inj.1 (by simpa [nlB] using hc)
      rw [e, this]; rfl
    · have hc' : nlB c = false := by simpa using hc
      have e : headOf (c :: r) = c :: headOf r := by unfold headOf; rw [List.takeWhile_cons, hc']; rfl
      rw [e] at h ⊢
      have := ih (fun hh => h (by simp [hh]))
      conv => lhs; rw [this]
      simp
theorem hex_digit (n k : Nat) : ∀ c ∈ digsN n k, hexB c = true := by
  induction k with
  | zero => simp [digsN]
  | succ k ih =>
    intro c hc
    simp only [digsN, List.mem_cons] at hc
    rcases hc with rfl | hc
    · have main : ∀ i : Fin 16, hexB (hxB i.1) = true := by decide
      exact main ⟨_, Nat.mod_lt _ (by decide)⟩
    · exact ih c hc
theorem seal_hex (b : List UInt8) : (sealOf b).all hexB = true := by
  rw [List.all_eq_true]; exact hex_digit _ _
theorem hex_not_nl {c : UInt8} (h : hexB c = true) : nlB c = false := by
  simp only [hexB, decide_eq_true_eq] at h
  simp only [nlB, decide_eq_false_iff_not]; omega
theorem body_not_nl (xs : List (List UInt8)) : ∀ c ∈ bodyOf xs, nlB c = false := by
  intro c hc
  simp only [bodyOf, List.mem_flatMap, List.mem_append, List.mem_cons, List.mem_nil_iff, or_false] at hc
  obtain ⟨x, _, hx | rfl⟩ := hc
  · have := quote_signs x c hx
    simp only [signB, Bool.or_eq_true, decide_eq_true_eq] at this
    simp only [nlB, decide_eq_false_iff_not]
    rcases this with h | h
    · have := plain_cases h; omega
    · omega
  · rfl
theorem front_not_nl (xs : List (List UInt8)) : ∀ c ∈ bodyOf xs ++ sealOf (bodyOf xs), nlB c = false := by
  intro c hc
  rcases List.mem_append.1 hc with h | h
  · exact body_not_nl xs c h
  · exact hex_not_nl (hex_digit _ _ c h)

theorem take_line (xs : List (List UInt8)) (h : Fit xs) (r : List UInt8) : takeOf (lineOf xs ++ r) = .ok xs r := by
  obtain ⟨h1, h2, h3⟩ := h
  have e : lineOf xs ++ r = (bodyOf xs ++ sealOf (bodyOf xs)) ++ 10 :: r := by simp [lineOf]
  have hh : headOf (lineOf xs ++ r) = bodyOf xs ++ sealOf (bodyOf xs) := by rw [e]; exact head_cut _ _ (front_not_nl xs)
  have hl : (bodyOf xs ++ sealOf (bodyOf xs)).length = (bodyOf xs).length + 8 := by rw [List.length_append, seal_len]
  have ht : (bodyOf xs ++ sealOf (bodyOf xs)).take ((bodyOf xs ++ sealOf (bodyOf xs)).length - 8) = bodyOf xs := by rw [hl, Nat.add_sub_cancel, List.take_left]
  have hd : (bodyOf xs ++ sealOf (bodyOf xs)).drop ((bodyOf xs ++ sealOf (bodyOf xs)).length - 8) = sealOf (bodyOf xs) := by rw [hl, Nat.add_sub_cancel, List.drop_left]
  unfold takeOf
  rw [hh, ht, hd, if_neg (by rw [e, List.length_append]; simp), if_neg (by rw [hl, seal_hex]; simp; omega), form_body xs h1 h2]
  simp only [if_true]
  refine congrArg (TakeR.ok xs) ?_
  rw [e, List.drop_append, List.drop_eq_nil_of_le (by omega)]
  simp
theorem take_ok {s : List UInt8} {xs : List (List UInt8)} {r : List UInt8} (h : takeOf s = .ok xs r) : s = lineOf xs ++ r ∧ Fit xs := by
  unfold takeOf at h
  split at h
  · cases h
  rename_i hs
  split at h
  · cases h
  rename_i hf
  split at h
  · cases h
  rename_i ys hys
  split at h
  · rename_i hseal
    cases h
    obtain ⟨hb, h1, h2⟩ := form_some hys
    have hcut := head_split s hs
    have hl : ¬ (headOf s).length < 8 ∧ ¬ 13000 ≤ (headOf s).length := ⟨fun h => hf (.inl h), fun h => hf (.inr (.inl h))⟩
    have hbl : (bodyOf xs).length = (headOf s).length - 8 := by rw [← hb, List.length_take]; omega
    refine ⟨?_, h1, h2, by omega⟩
    have hhead : headOf s = bodyOf xs ++ sealOf (bodyOf xs) := by
      rw [← hb, hseal, List.take_append_drop]
    conv => lhs; rw [hcut]
    conv => lhs; lhs; rw [hhead]
    simp [lineOf]
  · cases h
theorem take_none (s : List UInt8) (h : ∀ c ∈ s, nlB c = false) : takeOf s = .short := by
  unfold takeOf
  rw [head_none s h, if_pos rfl]

/-- What is scanned: the lists, each with what is behind its line. -/
noncomputable def scanN : Nat → List UInt8 → List (List (List UInt8) × List UInt8)
  | 0, _ => []
  | n + 1, s => match takeOf s with
    | some (some (some (xs, r))) => (xs, r) :: scanN n r
    | _ => []
noncomputable def scanOf (s : List UInt8) : List (List (List UInt8) × List UInt8) := scanN (s.length + 1) s
theorem take_less {s : List UInt8} {xs : List (List UInt8)} {r : List UInt8} (h : takeOf s = .ok xs r) : r.length + 9 ≤ s.length := by
  obtain ⟨h1, _⟩ := take_ok h
  rw [h1, List.length_append, line_len]; omega
theorem scanN_fuel : ∀ (n m : Nat) (s : List UInt8), s.length < n → s.length < m → scanN n s = scanN m s
  | 0, _, _, h, _ => absurd h (Nat.not_lt_zero _)
  | _, 0, _, _, h => absurd h (Nat.not_lt_zero _)
  | n + 1, m + 1, s, h1, h2 => by
    simp only [scanN]
    split
    · rename_i xs r ht
      have := take_less ht
      rw [scanN_fuel n m r (by omega) (by omega)]
    · rfl
theorem scan_ok {s : List UInt8} {xs : List (List UInt8)} {r : List UInt8} (h : takeOf s = .ok xs r) : scanOf s = (xs, r) :: scanOf r := by
  have := take_less h
  unfold scanOf
  show scanN (s.length + 1) s = _
  rw [scanN, h]
  show (xs, r) :: scanN s.length r = (xs, r) :: scanN (r.length + 1) r
  rw [scanN_fuel s.length (r.length + 1) r (by omega) (by omega)]
theorem scan_not {s : List UInt8} (h : ∀ xs r, takeOf s ≠ .ok xs r) : scanOf s = [] := by
  unfold scanOf
  rw [scanN]
  split
  · rename_i xs r e; exact absurd e (h xs r)
  · rfl
theorem scan_len : ∀ (n : Nat) (s : List UInt8), s.length ≤ n → (scanOf s).length ≤ s.length
  | n, s, hn => by
    rcases take_kinds (takeOf s) with h | h | h | ⟨xs, r, h⟩
    · rw [scan_not (by intro xs r e; rw [h] at e; cases e)]; simp
    · rw [scan_not (by intro xs r e; rw [h] at e; cases e)]; simp
    · rw [scan_not (by intro xs r e; rw [h] at e; cases e)]; simp
    · have h1 := take_less h
      cases n with
      | zero => omega
      | succ n =>
        have := scan_len n r (by omega)
        rw [scan_ok h, List.length_cons]; omega
/-- How many bytes are scanned. -/
def endOf (s : List UInt8) (l : List (List (List UInt8) × List UInt8)) : Nat := match l.getLast? with
  | some x => s.length - x.2.length
  | none => 0

/-- All texts of some lists, line by line. -/
def linesOfAll (ls : List (List (List UInt8))) : List UInt8 := ls.flatMap lineOf
theorem scan_lines : ∀ (ls : List (List (List UInt8))) (tail : List UInt8), (∀ x ∈ ls, Fit x) → (∀ xs r, takeOf tail ≠ .ok xs r) →
    (scanOf (linesOfAll ls ++ tail)).map (·.1) = ls ∧ ∀ x ∈ (scanOf (linesOfAll ls ++ tail)).getLast?, x.2 = tail
  | [], tail, _, ht => by
    have : scanOf (linesOfAll [] ++ tail) = [] := scan_not ht
    rw [this]; simp
  | x :: r, tail, hf, ht => by
    have h1 : linesOfAll (x :: r) ++ tail = lineOf x ++ (linesOfAll r ++ tail) := by simp [linesOfAll]
    have h2 := take_line x (hf x (by simp)) (linesOfAll r ++ tail)
    obtain ⟨h3, h4⟩ := scan_lines r tail (fun y hy => hf y (by simp [hy])) ht
    rw [h1, scan_ok h2]
    refine ⟨by simp [h3], ?_⟩
    intro y hy
    cases hc : scanOf (linesOfAll r ++ tail) with
    | nil =>
      rw [hc] at hy h3
      have : r = [] := by simpa using h3.symm
      subst this
      simp at hy
      rw [← hy]; rfl
    | cons a t =>
      rw [hc] at hy h4
      rw [List.getLast?_cons_cons] at hy
      exact h4 y hy

/-- A line cut short has no line feed. -/
theorem cut_no_nl (xs : List (List UInt8)) (k : Nat) (h : k < (lineOf xs).length) : ∀ c ∈ (lineOf xs).take k, nlB c = false := by
  intro c hc
  have e : lineOf xs = (bodyOf xs ++ sealOf (bodyOf xs)) ++ [10] := rfl
  have hk : k ≤ (bodyOf xs ++ sealOf (bodyOf xs)).length := by rw [e, List.length_append] at h; simp at h ⊢; omega
  rw [e, List.take_append_of_le_length hk] at hc
  exact front_not_nl xs c (List.mem_of_mem_take hc)

/-- A line of which one byte is another one is not taken. -/
theorem line_turned (xs : List (List UInt8)) (k : Nat) (hk : k + 1 < (lineOf xs).length) (c : UInt8) (hc : nlB c = false) (hne : (lineOf xs)[k]? ≠ some c) :
    ∀ ys r, takeOf ((lineOf xs).take k ++ c :: (lineOf xs).drop (k + 1)) ≠ .ok ys r := by
  intro ys r ht
  obtain ⟨h1, h2⟩ := take_ok ht
  rw [line_len] at hk
  have hT : lineOf xs = (bodyOf xs ++ sealOf (bodyOf xs)) ++ [10] := rfl
  have hfl : (bodyOf xs ++ sealOf (bodyOf xs)).length = (bodyOf xs).length + 8 := by rw [List.length_append, seal_len]
  have htk : (lineOf xs).take k = (bodyOf xs ++ sealOf (bodyOf xs)).take k := by rw [hT, List.take_append_of_le_length (by omega)]
  have hdk : (lineOf xs).drop (k + 1) = (bodyOf xs ++ sealOf (bodyOf xs)).drop (k + 1) ++ [10] := by rw [hT, List.drop_append_of_le_length (by omega)]
  rw [htk, hdk] at h1
  -- the head of the turned line
  have hn1 : ∀ x ∈ (bodyOf xs ++ sealOf (bodyOf xs)).take k ++ c :: (bodyOf xs ++ sealOf (bodyOf xs)).drop (k + 1), nlB x = false := by
    intro x hx
    rcases List.mem_append.1 hx with h | h
    · exact front_not_nl xs x (List.mem_of_mem_take h)
    · rcases List.mem_cons.1 h with rfl | h
      · exact hc
      · exact front_not_nl xs x (List.mem_of_mem_drop h)
  have hA : headOf ((bodyOf xs ++ sealOf (bodyOf xs)).take k ++ c :: ((bodyOf xs ++ sealOf (bodyOf xs)).drop (k + 1) ++ [10])) = (bodyOf xs ++ sealOf (bodyOf xs)).take k ++ c :: (bodyOf xs ++ sealOf (bodyOf xs)).drop (k + 1) := by
    have := head_cut _ [] hn1
    rw [← this]; congr 1; simp
  have hB : headOf (lineOf ys ++ r) = bodyOf ys ++ sealOf (bodyOf ys) := by
    have e : lineOf ys ++ r = (bodyOf ys ++ sealOf (bodyOf ys)) ++ 10 :: r := by simp [lineOf]
    rw [e]; exact head_cut _ _ (front_not_nl ys)
  have hE : (bodyOf xs ++ sealOf (bodyOf xs)).take k ++ c :: (bodyOf xs ++ sealOf (bodyOf xs)).drop (k + 1) = bodyOf ys ++ sealOf (bodyOf ys) := by
    rw [← hA, ← hB, h1]
  have hbl : (bodyOf ys).length = (bodyOf xs).length := by
    have := congrArg List.length hE
    simp only [List.length_append, List.length_take, List.length_cons, List.length_drop, seal_len] at this
    omega
  by_cases hkb : k < (bodyOf xs).length
  · -- the byte stands in the body
    have e1 : (bodyOf xs ++ sealOf (bodyOf xs)).take k ++ c :: (bodyOf xs ++ sealOf (bodyOf xs)).drop (k + 1) = ((bodyOf xs).take k ++ c :: (bodyOf xs).drop (k + 1)) ++ sealOf (bodyOf xs) := by
      rw [List.take_append_of_le_length (by omega), List.drop_append_of_le_length (by omega)]; simp
    rw [e1] at hE
    have hl1 : ((bodyOf xs).take k ++ c :: (bodyOf xs).drop (k + 1)).length = (bodyOf ys).length := by
      simp only [List.length_append, List.length_take, List.length_cons, List.length_drop]; omega
    obtain ⟨e2, e3⟩ := List.append_inj hE hl1
    have hne2 : c ≠ (bodyOf xs)[k] := by
      intro h
      apply hne
      rw [hT, List.getElem?_append_left (by rw [hfl]; omega), List.getElem?_append_left hkb, List.getElem?_eq_getElem hkb, h]
    have h5 := add_apart 1 ((bodyOf xs).take k) ((bodyOf xs).drop (k + 1)) hne2
    rw [e2] at h5
    rw [← List.drop_eq_getElem_cons hkb, List.take_append_drop] at h5
    exact h5 (hex_inj (add_lt _ _) (add_lt _ _) e3.symm)
  · -- the byte stands among the digits
    have hkb' : (bodyOf xs).length ≤ k := by omega
    have e1 : (bodyOf xs ++ sealOf (bodyOf xs)).take k ++ c :: (bodyOf xs ++ sealOf (bodyOf xs)).drop (k + 1) = bodyOf xs ++ ((sealOf (bodyOf xs)).take (k - (bodyOf xs).length) ++ c :: (sealOf (bodyOf xs)).drop (k - (bodyOf xs).length + 1)) := by
      rw [List.take_append, List.drop_append, List.take_of_length_le hkb', List.drop_eq_nil_of_le (by omega), show k + 1 - (bodyOf xs).length = k - (bodyOf xs).length + 1 by omega]
      simp
    rw [e1] at hE
    obtain ⟨e2, e3⟩ := List.append_inj hE hbl.symm
    rw [← e2] at e3
    apply hne
    have hk8 : k - (bodyOf xs).length < (sealOf (bodyOf xs)).length := by rw [seal_len]; omega
    rw [hT, List.getElem?_append_left (by rw [hfl]; omega), List.getElem?_append_right hkb', ← e3, List.getElem?_append_right (by rw [List.length_take]; omega)]
    have : k - (bodyOf xs).length - ((sealOf (bodyOf xs)).take (k - (bodyOf xs).length)).length = 0 := by rw [List.length_take]; omega
    rw [this]; rfl

end Go.Proofs.YtllkibdpjpdbbaaDoor
