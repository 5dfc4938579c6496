/-
  Chapter 9 in plain words: names, what is outside, where a text is cut, what a line says, what lines say; no program, no world. No condition.
-/
import Derived.Test.YtldddecaeloohaaDoorEJ
namespace Go.Proofs.YtldddecaeloohaaDoor

def nameC (c : UInt8) : Bool := decide (65 ≤ c.toNat ∧ c.toNat ≤ 90 ∨ 97 ≤ c.toNat ∧ c.toNat ≤ 122 ∨ 48 ≤ c.toNat ∧ c.toNat ≤ 57 ∨ c.toNat = 95 ∨ c.toNat = 45 ∨ c.toNat = 46)
def nameB (l : BS) : Bool := l.all nameC && decide (l ≠ []) && decide (l.length ≤ 40)
/-- The sign that closes what opens here. -/
def opens : BS → Option UInt8
  | c :: d :: _ => if c = 36 then (if d = 40 then some 41 else if d = 123 then some 125 else none) else none
  | _ => none
/-- Of each byte: is it outside? st: the signs that close what is open, the last one first. -/
def outsL : List UInt8 → BS → List Bool
  | _, [] => []
  | st, [c] => [if st.head? = some c then false else decide (st = [])]
  | st, c :: d :: r =>
    match opens (c :: d :: r) with
    | some q => false :: false :: outsL (q :: st) r
    | none => if st.head? = some c then false :: outsL st.tail (d :: r) else decide (st = []) :: outsL st (d :: r)
theorem outs_len : ∀ (st : List UInt8) (s : BS), (outsL st s).length = s.length
  | _, [] => rfl
  | _, [_] => by unfold outsL; rfl
  | st, c :: d :: r => by
    unfold outsL
    split
    · simp [outs_len _ r]
    · split
      · simp [outs_len _ (d :: r)]
      · simp [outs_len _ (d :: r)]
theorem outs_open {st : List UInt8} {c d q : UInt8} {r : BS} (h : opens (c :: d :: r) = some q) : outsL st (c :: d :: r) = false :: false :: outsL (q :: st) r := by
  conv => lhs; unfold outsL
  rw [h]
theorem opens_nil : opens [] = none := rfl
theorem opens_one (c : UInt8) : opens [c] = none := rfl
theorem outs_close {st : List UInt8} {c : UInt8} {r : BS} (h : opens (c :: r) = none) (hs : st.head? = some c) : outsL st (c :: r) = false :: outsL st.tail r := by
  cases r with
  | nil => unfold outsL; rw [if_pos hs]
  | cons d r =>
    conv => lhs; unfold outsL
    rw [h]
    simp only
    rw [if_pos hs]
theorem outs_plain {st : List UInt8} {c : UInt8} {r : BS} (h : opens (c :: r) = none) (hs : ¬ st.head? = some c) : outsL st (c :: r) = decide (st = []) :: outsL st r := by
  cases r with
  | nil => unfold outsL; rw [if_neg hs]
  | cons d r =>
    conv => lhs; unfold outsL
    rw [h]
    simp only
    rw [if_neg hs]
/-- The first of the signs that begins here. -/
def signAt (signs : List BS) (s : BS) : Option BS := signs.find? fun x => decide (x ≠ []) && x.isPrefixOf s
abbrev Cut3 := BS × BS × BS
def Cut3.put (c : UInt8) (x : Cut3) : Cut3 := (c :: x.1, x.2.1, x.2.2)
def cutIdx (signs : List BS) : List Bool → BS → Cut3
  | _, [] => ([], [], [])
  | [], c :: r => (c :: r, [], [])
  | true :: o, c :: r =>
    match signAt signs (c :: r) with
    | some x => ([], x, (c :: r).drop x.length)
    | none => Cut3.put c (cutIdx signs o r)
  | false :: o, c :: r => Cut3.put c (cutIdx signs o r)
def cutW (signs : List BS) (st : List UInt8) (s : BS) : Cut3 := cutIdx signs (outsL st s) s
/-- Where a text is cut, and by which sign. -/
def cutOf (signs : List BS) (s : BS) : Cut3 := cutW signs [] s
section
variable {signs : List BS} {st : List UInt8} {c d q : UInt8} {r : BS}
theorem cutW_nil : cutW signs st [] = ([], [], []) := by unfold cutW cutIdx; rfl
theorem cutW_open (h : opens (c :: d :: r) = some q) : cutW signs st (c :: d :: r) = Cut3.put c (Cut3.put d (cutW signs (q :: st) r)) := by
  unfold cutW; rw [outs_open h]; rfl
theorem cutW_close (h : opens (c :: r) = none) (hs : st.head? = some c) : cutW signs st (c :: r) = Cut3.put c (cutW signs st.tail r) := by
  unfold cutW; rw [outs_close h hs]; rfl
theorem cutW_in (h : opens (c :: r) = none) (hs : ¬ st.head? = some c) (hn : st ≠ []) : cutW signs st (c :: r) = Cut3.put c (cutW signs st r) := by
  unfold cutW; rw [outs_plain h hs, decide_eq_false hn]; rfl
theorem cutW_sign {x : BS} (h : opens (c :: r) = none) (hx : signAt signs (c :: r) = some x) : cutW signs [] (c :: r) = ([], x, (c :: r).drop x.length) := by
  unfold cutW
  rw [outs_plain h (by simp), decide_eq_true rfl]
  show (match signAt signs (c :: r) with | some x => _ | none => _) = _
  rw [hx]
theorem cutW_out (h : opens (c :: r) = none) (hx : signAt signs (c :: r) = none) : cutW signs [] (c :: r) = Cut3.put c (cutW signs [] r) := by
  unfold cutW
  rw [outs_plain h (by simp), decide_eq_true rfl]
  show (match signAt signs (c :: r) with | some x => _ | none => _) = _
  rw [hx]
end
theorem sign_at {signs : List BS} {s x : BS} (h : signAt signs s = some x) : x ∈ signs ∧ x ≠ [] ∧ x ++ s.drop x.length = s := by
  unfold signAt at h
  have h1 := List.mem_of_find?_eq_some h
  have h2 := List.find?_some h
  simp only [Bool.and_eq_true, decide_eq_true_eq, List.isPrefixOf_iff_prefix] at h2
  refine ⟨h1, h2.1, ?_⟩
  obtain ⟨t, rfl⟩ := h2.2
  rw [List.drop_left]

/-! ### what a line says -/
structure Nd where
  kind : Int
  no : Int
  op : BS
  name : BS
  text : BS
  targets : BS
  pattern : BS
  inputs : BS
  order : BS
  recipe : List BS
def wordsL (l : BS) : List BS := (pieces blankB l).filter fun x => decide (x ≠ [])
def wIfeq : BS := [105, 102, 101, 113]
def wIfneq : BS := [105, 102, 110, 101, 113]
def wIfdef : BS := [105, 102, 100, 101, 102]
def wIfndef : BS := [105, 102, 110, 100, 101, 102]
def wElse : BS := [101, 108, 115, 101]
def wEndif : BS := [101, 110, 100, 105, 102]
def wIncl : BS := [105, 110, 99, 108, 117, 100, 101]
def wIncl2 : BS := 45 :: wIncl
def signsL : List BS := [[58, 61], [63, 61], [43, 61], [61], [58]]
/-- What is behind a rule's pattern; its pattern. -/
def rulePat (b : BS) : BS := if (cutOf [[58]] b).2.1 = [] then [] else trimOf (cutOf [[58]] b).1
def ruleRest (b : BS) : BS := if (cutOf [[58]] b).2.1 = [] then b else (cutOf [[58]] b).2.2
def ruleBad (a b : BS) : Bool :=
  decide ((cutOf [[58]] b).2.1 ≠ [] ∧ rulePat b = []) || decide (trimOf a = []) || decide ((cutOf [[58]] (ruleRest b)).2.1 ≠ []) ||
    decide ((cutOf [[124]] (ruleRest b)).2.1 ≠ [] ∧ (cutOf [[124]] (cutOf [[124]] (ruleRest b)).2.2).2.1 ≠ [])
def ruleL (no : Int) (a b : BS) : Option Nd :=
  if ruleBad a b = true then none
  else some ⟨2, no, [], [], [], trimOf a, rulePat b, trimOf (cutOf [[124]] (ruleRest b)).1, trimOf (cutOf [[124]] (ruleRest b)).2.2, []⟩
def restL (x w : BS) : BS := trimOf (x.drop w.length)
def ifL (no : Int) (w rest : BS) : Option Nd :=
  if 2 ≤ rest.length ∧ rest.head? = some 40 ∧ rest.getLast? = some 41 then
    let k := cutOf [[44]] rest.tail.dropLast
    if k.2.1 = [] then none else some ⟨3, no, w, trimOf k.1, trimOf k.2.2, [], [], [], [], []⟩
  else none
def eqL (no : Int) (x : BS) : Option Nd :=
  let k := cutOf signsL x
  if k.2.1 = [] then none
  else if k.2.1 = [58] then ruleL no k.1 k.2.2
  else if nameB (trimOf k.1) then some ⟨1, no, k.2.1, trimOf k.1, trimOf k.2.2, [], [], [], [], []⟩ else none
/-- The node of a line without a tab; none: it is wrong. -/
def oneL (no : Int) (t : BS) : Option Nd :=
  match wordsL (trimOf t) with
  | [] => none
  | w :: ws =>
    if w = wIfeq ∨ w = wIfneq then ifL no w (restL (trimOf t) w)
    else if w = wIfdef ∨ w = wIfndef then (if nameB (restL (trimOf t) w) then some ⟨3, no, w, restL (trimOf t) w, [], [], [], [], [], []⟩ else none)
    else if w = wElse then (if ws = [] then some ⟨4, no, [], [], [], [], [], [], [], []⟩ else none)
    else if w = wEndif then (if ws = [] then some ⟨5, no, [], [], [], [], [], [], [], []⟩ else none)
    else if w = wIncl ∨ w = wIncl2 then (if restL (trimOf t) w = [] then none else some ⟨6, no, w, [], restL (trimOf t) w, [], [], [], [], []⟩)
    else eqL no (trimOf t)

/-! ### what lines say -/
abbrev LineI := Int × Bool × BS
abbrev Parsed := List Nd × Int × Int
def badL (e no : Int) : Parsed := ([], e, no)
/-- op: of each If that is open, the last one first: had it an Else? -/
def parseF : List Bool → List Nd → List LineI → Parsed
  | op, out, [] => if op = [] then (out, 0, 0) else badL 14 0
  | op, out, (no, true, t) :: r =>
    match out.getLast? with
    | some n => if n.kind = 2 then parseF op (out.dropLast ++ [{ n with recipe := n.recipe ++ [t] }]) r else badL 2 no
    | none => badL 2 no
  | op, out, (no, false, t) :: r =>
    match oneL no t with
    | none => badL 2 no
    | some n =>
      if n.kind = 3 then (if op.length = 20 then badL 15 no else parseF (false :: op) (out ++ [n]) r)
      else if n.kind = 4 then (match op with
        | false :: o => parseF (true :: o) (out ++ [n]) r
        | _ => badL 2 no)
      else if n.kind = 5 then (match op with
        | _ :: o => parseF o (out ++ [n]) r
        | [] => badL 2 no)
      else parseF op (out ++ [n]) r
def parseOf (l : List LineI) : Parsed := parseF [] [] l
/-- The lines of a makefile's text, as Parse takes them. -/
def toLine (x : Item) : LineI := ((x.1 : Nat), x.2.1, x.2.2)

/-! ### what oneL tells -/
theorem rule_kind {no : Int} {a b : BS} {n : Nd} (h : ruleL no a b = some n) : n.kind = 2 ∧ n.no = no ∧ n.recipe = [] := by
  unfold ruleL at h
  split at h
  · cases h
  · cases h; exact ⟨rfl, rfl, rfl⟩
theorem one_kind {no : Int} {t : BS} {n : Nd} (h : oneL no t = some n) : 1 ≤ n.kind ∧ n.kind ≤ 6 ∧ n.no = no ∧ n.recipe = [] := by
  unfold oneL at h
  split at h
  · cases h
  · split at h
    · unfold ifL at h
      split at h
      · simp only at h
        split at h
        · cases h
        · cases h; exact ⟨by simp, by simp, rfl, rfl⟩
      · cases h
    split at h
    · split at h
      · cases h; exact ⟨by simp, by simp, rfl, rfl⟩
      · cases h
    split at h
    · split at h
      · cases h; exact ⟨by simp, by simp, rfl, rfl⟩
      · cases h
    split at h
    · split at h
      · cases h; exact ⟨by simp, by simp, rfl, rfl⟩
      · cases h
    split at h
    · split at h
      · cases h
      · cases h; exact ⟨by simp, by simp, rfl, rfl⟩
    · unfold eqL at h
      simp only at h
      split at h
      · cases h
      split at h
      · obtain ⟨h1, h2, h3⟩ := rule_kind h
        exact ⟨by omega, by omega, h2, h3⟩
      split at h
      · cases h; exact ⟨by simp, by simp, rfl, rfl⟩
      · cases h
end Go.Proofs.YtldddecaeloohaaDoor
