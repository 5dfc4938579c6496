/-
  Chapter 9 in plain words: names, what is outside, where a text is cut; no program, no world. No condition.
  Chapter 11 in plain words: variables, and what a text expands to; no program, no world. No condition.
  Chapter 11: how long what is told is; that a text that is right stays so with more room; what two texts are, put together. No program, no world. No condition.
-/
import Derived.Test.YtbngoodjgijmgaaGreatDoorHX
namespace Go.Proofs.YtbngoodjgijmgaaGreatDoor

def nameC (c : UInt8) : Bool := decide (65 ≤ c.toNat ∧ c.toNat ≤ 90 ∨ 97 ≤ c.toNat ∧ c.toNat ≤ 122 ∨ 48 ≤ c.toNat ∧ c.toNat ≤ 57 ∨ c.toNat = 95 ∨ c.toNat = 45 ∨ c.toNat = 46)
def nameB (l : BS) : Bool := l.all nameC && decide (l ≠ []) && decide (l.length ≤ 40)
/-- The sign that closes what opens here. -/
def opens : BS → Option UInt8
  | c :: d :: _ => if c = 36 then (if d = 40 then some 41 else if d = 123 then some 125 else none) else none
  | _ => none
/-- Of each byte: is it outside? st: the signs that close what is open, the last one first. -/
def outsL : List UInt8 → BS → List Bool
  | _, [] => []
  | st, [c] => [if st.head? = some c then false else decide (st = [])]
  | st, c :: d :: r =>
    match opens (c :: d :: r) with
    | some q => false :: false :: outsL (q :: st) r
    | none => if st.head? = some c then false :: outsL st.tail (d :: r) else decide (st = []) :: outsL st (d :: r)
theorem outs_len : ∀ (st : List UInt8) (s : BS), (outsL st s).length = s.length
  | _, [] => rfl
  | _, [_] => by unfold outsL; rfl
  | st, c :: d :: r => by
    unfold outsL
    split
    · simp [outs_len _ r]
    · split
      · simp [outs_len _ (d :: r)]
      · simp [outs_len _ (d :: r)]
theorem outs_open {st : List UInt8} {c d q : UInt8} {r : BS} (h : opens (c :: d :: r) = some q) : outsL st (c :: d :: r) = false :: false :: outsL (q :: st) r := by
  conv => lhs; unfold outsL
  rw [h]
theorem opens_nil : opens [] = none := rfl
theorem opens_one (c : UInt8) : opens [c] = none := rfl
theorem outs_close {st : List UInt8} {c : UInt8} {r : BS} (h : opens (c :: r) = none) (hs : st.head? = some c) : outsL st (c :: r) = false :: outsL st.tail r := by
  cases r with
  | nil => unfold outsL; rw [if_pos hs]
  | cons d r =>
    conv => lhs; unfold outsL
    rw [h]
    simp only
    rw [if_pos hs]
theorem outs_plain {st : List UInt8} {c : UInt8} {r : BS} (h : opens (c :: r) = none) (hs : ¬ st.head? = some c) : outsL st (c :: r) = decide (st = []) :: outsL st r := by
  cases r with
  | nil => unfold outsL; rw [if_neg hs]
  | cons d r =>
    conv => lhs; unfold outsL
    rw [h]
    simp only
    rw [if_neg hs]
/-- The first of the signs that begins here. -/
def signAt (signs : List BS) (s : BS) : Option BS := signs.find? fun x => decide (x ≠ []) && x.isPrefixOf s
abbrev Cut3 := BS × BS × BS
def Cut3.put (c : UInt8) (x : Cut3) : Cut3 := (c :: x.1, x.2.1, x.2.2)
def cutIdx (signs : List BS) : List Bool → BS → Cut3
  | _, [] => ([], [], [])
  | [], c :: r => (c :: r, [], [])
  | true :: o, c :: r =>
    match signAt signs (c :: r) with
    | some x => ([], x, (c :: r).drop x.length)
    | none => Cut3.put c (cutIdx signs o r)
  | false :: o, c :: r => Cut3.put c (cutIdx signs o r)
def cutW (signs : List BS) (st : List UInt8) (s : BS) : Cut3 := cutIdx signs (outsL st s) s
/-- Where a text is cut, and by which sign. -/
def cutOf (signs : List BS) (s : BS) : Cut3 := cutW signs [] s
section
variable {signs : List BS} {st : List UInt8} {c d q : UInt8} {r : BS}
theorem cutW_nil : cutW signs st [] = ([], [], []) := by unfold cutW cutIdx; rfl
theorem cutW_open (h : opens (c :: d :: r) = some q) : cutW signs st (c :: d :: r) = Cut3.put c (Cut3.put d (cutW signs (q :: st) r)) := by
  unfold cutW; rw [outs_open h]; rfl
theorem cutW_close (h : opens (c :: r) = none) (hs : st.head? = some c) : cutW signs st (c :: r) = Cut3.put c (cutW signs st.tail r) := by
  unfold cutW; rw [outs_close h hs]; rfl
theorem cutW_in (h : opens (c :: r) = none) (hs : ¬ st.head? = some c) (hn : st ≠ []) : cutW signs st (c :: r) = Cut3.put c (cutW signs st r) := by
  unfold cutW; rw [outs_plain h hs, decide_eq_false hn]; rfl
theorem cutW_sign {x : BS} (h : opens (c :: r) = none) (hx : signAt signs (c :: r) = some x) : cutW signs [] (c :: r) = ([], x, (c :: r).drop x.length) := by
  unfold cutW
  rw [outs_plain h (by simp), decide_eq_true rfl]
  show (match signAt signs (c :: r) with | some x => _ | none => _) = _
  rw [hx]
theorem cutW_out (h : opens (c :: r) = none) (hx : signAt signs (c :: r) = none) : cutW signs [] (c :: r) = Cut3.put c (cutW signs [] r) := by
  unfold cutW
  rw [outs_plain h (by simp), decide_eq_true rfl]
  show (match signAt signs (c :: r) with | some x => _ | none => _) = _
  rw [hx]
end
theorem sign_at {signs : List BS} {s x : BS} (h : signAt signs s = some x) : x ∈ signs ∧ x ≠ [] ∧ x ++ s.drop x.length = s := by
  unfold signAt at h
  have h1 := List.mem_of_find?_eq_some h
  have h2 := List.find?_some h
  simp only [Bool.and_eq_true, decide_eq_true_eq, List.isPrefixOf_iff_prefix] at h2
  refine ⟨h1, h2.1, ?_⟩
  obtain ⟨t, rfl⟩ := h2.2
  rw [List.drop_left]

theorem opens_two (c d : UInt8) (r : BS) : opens (c :: d :: r) = if c = 36 then (if d = 40 then some 41 else if d = 123 then some 125 else none) else none := rfl
theorem opens_by (l : BS) : (([36, 40] : BS).isPrefixOf l = true ∧ opens l = some 41) ∨ (([36, 40] : BS).isPrefixOf l = false ∧ ([36, 123] : BS).isPrefixOf l = true ∧ opens l = some 125) ∨
    (([36, 40] : BS).isPrefixOf l = false ∧ ([36, 123] : BS).isPrefixOf l = false ∧ opens l = none) := by
  match l with
  | [] => exact .inr (.inr ⟨rfl, rfl, rfl⟩)
  | [c] =>
    refine .inr (.inr ⟨?_, ?_, rfl⟩) <;> simp [List.isPrefixOf]
  | c :: d :: r =>
    rw [opens_two]
    by_cases hc : c = 36
    · subst hc
      by_cases h1 : d = 40
      · subst h1; exact .inl ⟨by simp [List.isPrefixOf], rfl⟩
      by_cases h2 : d = 123
      · subst h2; exact .inr (.inl ⟨by simp [List.isPrefixOf], by simp [List.isPrefixOf], rfl⟩)
      have e1 : (40 == d) = false := by simpa using fun e : 40 = d => h1 e.symm
      have e2 : (123 == d) = false := by simpa using fun e : 123 = d => h2 e.symm
      exact .inr (.inr ⟨by simp [List.isPrefixOf, e1], by simp [List.isPrefixOf, e2], by rw [if_pos rfl, if_neg h1, if_neg h2]⟩)
    · have e0 : (36 == c) = false := by simpa using fun e : 36 = c => hc e.symm
      exact .inr (.inr ⟨by simp [List.isPrefixOf, e0], by simp [List.isPrefixOf, e0], by rw [if_neg hc]⟩)
theorem opens_none {d : UInt8} {r : BS} (h : d ≠ 36) : opens (d :: r) = none := by
  cases r with
  | nil => rfl
  | cons e r => rw [opens_two, if_neg h]
/-- An opening, a byte at a time: its second byte is inside. -/
theorem cutW_begin {signs : List BS} {st : List UInt8} {c q : UInt8} {r : BS} (h : opens (c :: r) = some q) : cutW signs st (c :: r) = Cut3.put c (cutW signs (q :: st) r) := by
  cases r with
  | nil => cases h
  | cons d r =>
    rw [cutW_open h]
    have h' := h
    rw [opens_two] at h'
    split at h'
    · split at h'
      · rename_i h1 h2
        cases h'
        rw [cutW_in (opens_none (by rw [h2]; decide)) (by rw [h2]; simp) (by simp)]
      · split at h'
        · rename_i h1 h2
          cases h'
          rw [cutW_in (opens_none (by rw [h2]; decide)) (by rw [h2]; simp) (by simp)]
        · cases h'
    · cases h'
/-- What the loop keeps: i bytes are behind, st is open. -/
def CutS (sg : List BS) (l : BS) (st : List UInt8) (i : Nat) : Prop :=
  cutOf sg l = (l.take i ++ (cutW sg st (l.drop i)).1, (cutW sg st (l.drop i)).2.1, (cutW sg st (l.drop i)).2.2)
section
variable {sg : List BS} {l : BS} {st : List UInt8} {i : Nat}
theorem CutS.start (sg : List BS) (l : BS) : CutS sg l [] 0 := by
  unfold CutS cutOf
  simp
theorem CutS.next (h : CutS sg l st i) {st' : List UInt8} (hi : i < l.length) (he : cutW sg st (l.drop i) = Cut3.put l[i] (cutW sg st' (l.drop (i + 1)))) : CutS sg l st' (i + 1) := by
  unfold CutS at h ⊢
  rw [h, he]
  have e4 : ∀ K : BS, l.take (i + 1) ++ K = l.take i ++ l[i] :: K := fun K => by rw [List.take_succ_eq_append_getElem hi, List.append_assoc]; rfl
  rw [e4]; rfl
theorem CutS.begin (h : CutS sg l st i) (hi : i < l.length) {q : UInt8} (ho : opens (l.drop i) = some q) : CutS sg l (q :: st) (i + 1) := by
  refine h.next hi ?_
  rw [List.drop_eq_getElem_cons hi] at ho ⊢
  exact cutW_begin ho
theorem CutS.close {b : UInt8} (h : CutS sg l (b :: st) i) (hi : i < l.length) (ho : opens (l.drop i) = none) (hb : l[i] = b) : CutS sg l st (i + 1) := by
  refine h.next hi ?_
  rw [List.drop_eq_getElem_cons hi] at ho ⊢
  exact cutW_close ho (by rw [hb]; rfl)
theorem CutS.inside {b : UInt8} (h : CutS sg l (b :: st) i) (hi : i < l.length) (ho : opens (l.drop i) = none) (hb : l[i] ≠ b) : CutS sg l (b :: st) (i + 1) := by
  refine h.next hi ?_
  rw [List.drop_eq_getElem_cons hi] at ho ⊢
  exact cutW_in ho (by simpa using fun e : b = l[i] => hb e.symm) (by simp)
theorem CutS.outside (h : CutS sg l [] i) (hi : i < l.length) (ho : opens (l.drop i) = none) (hs : signAt sg (l.drop i) = none) : CutS sg l [] (i + 1) := by
  refine h.next hi ?_
  rw [List.drop_eq_getElem_cons hi] at ho hs ⊢
  exact cutW_out ho hs
theorem CutS.hit {x : BS} (h : CutS sg l [] i) (hi : i < l.length) (ho : opens (l.drop i) = none) (hs : signAt sg (l.drop i) = some x) : cutOf sg l = (l.take i, x, l.drop (i + x.length)) := by
  unfold CutS at h
  rw [List.drop_eq_getElem_cons hi] at ho hs
  rw [h, List.drop_eq_getElem_cons hi, cutW_sign ho hs, List.append_nil, ← List.drop_eq_getElem_cons hi, List.drop_drop]
theorem CutS.done (h : CutS sg l st i) (hi : l.length ≤ i) : cutOf sg l = (l, [], []) := by
  unfold CutS at h
  rw [h, List.drop_eq_nil_of_le hi, List.take_of_length_le hi, cutW_nil, List.append_nil]
end


theorem cutIdx_short (sg : List BS) : ∀ (o : List Bool) (s : BS), (cutIdx sg o s).1.length ≤ s.length ∧ (cutIdx sg o s).2.2.length ≤ s.length ∧ (cutIdx sg o s).2.1.length ≤ s.length ∧ (cutIdx sg o s).1.length + (cutIdx sg o s).2.1.length + (cutIdx sg o s).2.2.length = s.length
  | _, [] => by unfold cutIdx; simp
  | [], c :: r => by unfold cutIdx; simp
  | true :: o, c :: r => by
    unfold cutIdx
    cases h : signAt sg (c :: r) with
    | some x =>
      have h1 := congrArg List.length (sign_at h).2.2
      rw [List.length_append, List.length_drop] at h1
      simp only [List.length_nil, List.length_drop, List.length_cons] at h1 ⊢
      omega
    | none =>
      have := cutIdx_short sg o r
      simp only [Cut3.put, List.length_cons]
      omega
  | false :: o, c :: r => by
    unfold cutIdx
    have := cutIdx_short sg o r
    simp only [Cut3.put, List.length_cons]
    omega
theorem cut_parts (sg : List BS) (s : BS) : (cutOf sg s).1.length + (cutOf sg s).2.1.length + (cutOf sg s).2.2.length = s.length := (cutIdx_short sg _ s).2.2.2
theorem cut_short (sg : List BS) (s : BS) : (cutOf sg s).2.2.length ≤ s.length := (cutIdx_short sg _ s).2.1
theorem cut_short1 (sg : List BS) (s : BS) : (cutOf sg s).1.length ≤ s.length := (cutIdx_short sg _ s).1
end Go.Proofs.YtbngoodjgijmgaaGreatDoor

namespace Go.Proofs.YtbngoodjgijmgaaGreatDoor

/-! ### variables -/
/-- A variable: its name, its text, is it simple? -/
abbrev VarT := BT × BT × Bool
abbrev EnvT := List VarT
def getT (v : EnvT) (n : BT) : Option VarT := v.find? fun x => decide (x.1 = n)
def setT : EnvT → VarT → EnvT
  | [], x => [x]
  | y :: r, x => if y.1 = x.1 then x :: r else if x.1 < y.1 then x :: y :: r else y :: setT r x
/-- The variables stand by their names, each name once. -/
def SrtT (v : EnvT) : Prop := v.Pairwise fun a b => a.1 < b.1

/-! ### what a step tells: an error, or how many steps were made, and something -/
abbrev Rs (α : Type) := Except Int (Nat × α)
abbrev R := Rs BT
def Rb {α β : Type} (x : Rs α) (f : Nat → α → Rs β) : Rs β := match x with | .error e => .error e | .ok y => f y.1 y.2
def finR (n : Nat) (s : BT) : R := if 4000 < s.length then .error 3 else .ok (n, s)
def textsR (E : BT → Nat → R) : List BT → Nat → Rs (List BT)
  | [], n => .ok (n, [])
  | s :: r, n => Rb (E s n) fun m t => Rb (textsR E r m) fun k l => .ok (k, t :: l)
/-- What is told of each word, put together. -/
def eachR (f : BT → Nat → R) (s : BT) (n : Nat) : R := Rb (textsR f (wordsT s) n) fun m l => finR m (joinT l)

/-! ### a text -/
/-- What stands behind a dollar sign: what it tells, and what is left. -/
def refAt (rf : BT → Nat → R) (q : UInt8) (r : BT) (n : Nat) : Rs (BT × BT) :=
  if (cutOf [[q]] r).2.1 = [] then .error 2 else Rb (rf (cutOf [[q]] r).1 n) fun m t => .ok (m, t, (cutOf [[q]] r).2.2)
def dolR (rf vf : BT → Nat → R) : BT → Nat → Rs (BT × BT)
  | [], _ => .error 2
  | c :: r, n =>
    if c = 36 then .ok (n, [36], r)
    else if c = 40 then refAt rf 41 r n
    else if c = 123 then refAt rf 125 r n
    else Rb (vf [c] n) fun m t => .ok (m, t, r)
def bodyF (rf vf : BT → Nat → R) : Nat → BT → Nat → R
  | 0, _, _ => .error 0
  | _ + 1, [], n => .ok (n, [])
  | f + 1, c :: r, n =>
    if c = 36 then Rb (dolR rf vf r n) fun m x => Rb (bodyF rf vf f x.2 m) fun k u => .ok (k, x.1 ++ u)
    else Rb (bodyF rf vf f r n) fun k u => .ok (k, c :: u)
def bodyR (rf vf : BT → Nat → R) (s : BT) (n : Nat) : R := bodyF rf vf (s.length + 1) s n
def textR (rf vf : BT → Nat → R) (s : BT) (n : Nat) : R := Rb (bodyR rf vf s n) finR

/-! ### a reference -/
def nIf : BT := [105, 102]
def nForeach : BT := [102, 111, 114, 101, 97, 99, 104]
def nCallW : BT := [99, 97, 108, 108]
def leastT (w : BT) : Int := if w = nIf then 2 else if w = nForeach then 3 else if w = nCallW then 1 else manyOf w
def mostT (w : BT) : Int := if w = nIf then 3 else if w = nForeach then 3 else if w = nCallW then 9 else manyOf w
def hasBl (c : BT) : Bool := c.any blankB
/-- The word that a reference begins with, if a blank is behind it; and what is behind that. -/
def funW (c : BT) : BT := if hasBl c then c.takeWhile fun x => !blankB x else []
def funRest (c : BT) : BT := if hasBl c then cutL (c.dropWhile fun x => !blankB x) else []
def argsT : Nat → BT → List BT
  | 0, s => [s]
  | m + 1, s => if (cutOf [[44]] s).2.1 = [] then [s] else (cutOf [[44]] s).1 :: argsT m (cutOf [[44]] s).2.2
def callR (m : Nat) (x : BT × Int) : R := if x.2 = 0 then .ok (m, x.1) else .error x.2
def chooseR (E : BT → Nat → R) (args : List BT) (n : Nat) : R :=
  Rb (E (args.getD 0 []) n) fun m t => if trimOf t ≠ [] then E (args.getD 1 []) m else if args.length < 3 then .ok (m, []) else E (args.getD 2 []) m
def stepR (n : Nat) (f : Nat → R) : R := if 2000 ≤ n then .error 12 else f (n + 1)
def forR (E : EnvT → BT → Nat → R) (v : EnvT) (args : List BT) (n : Nat) : R :=
  Rb (textsR (E v) (args.take 2) n) fun m l => eachR (fun w k => stepR k fun k' => E (setT v (trimOf (l.getD 0 []), w, true)) (args.getD 2 []) k') (l.getD 1 []) m
def putT : EnvT → Nat → List BT → EnvT
  | v, _, [] => v
  | v, i, s :: r => putT (setT v (decOf i, s, true)) (i + 1) r
def textOf (x : Option VarT) : BT := match x with | none => [] | some y => y.2.1
def applyR (E : EnvT → BT → Nat → R) (v : EnvT) (args : List BT) (n : Nat) : R :=
  Rb (textsR (E v) args n) fun m l => E (putT v 0 (l.set 0 (trimOf (l.getD 0 [])))) (textOf (getT v (trimOf (l.getD 0 [])))) m
def turnP (p q : BT) : BT × BT := if openB p = true then (p, q) else (37 :: p, 37 :: q)
def turnedR (s p q : BT) (n : Nat) : R := eachR (fun w k => .ok (k, substL (turnP p q).1 (turnP p q).2 w)) s n
def varB (E : EnvT → BT → Nat → R) (vf : EnvT → BT → Nat → R) (v : EnvT) (c : BT) (n : Nat) : R :=
  if (cutOf [[61]] (cutOf [[58]] c).2.2).2.1 = [] then Rb (E v c n) fun m x => vf v x m
  else Rb (textsR (E v) [(cutOf [[58]] c).1, (cutOf [[61]] (cutOf [[58]] c).2.2).1, (cutOf [[61]] (cutOf [[58]] c).2.2).2.2] n) fun m l =>
    Rb (vf v (l.getD 0 []) m) fun m' s => turnedR s (l.getD 1 []) (l.getD 2 []) m'
def funB (E : EnvT → BT → Nat → R) (v : EnvT) (w : BT) (args : List BT) (n : Nat) : R :=
  if w = nIf then chooseR (E v) args n
  else if w = nForeach then forR E v args n
  else if w = nCallW then applyR E v args n
  else Rb (textsR (E v) args n) fun m l => callR m (callT w l)
def refB (E : EnvT → BT → Nat → R) (vf : EnvT → BT → Nat → R) (v : EnvT) (c : BT) (n : Nat) : R :=
  if mostT (funW c) = 0 then varB E vf v c n
  else if ((argsT ((mostT (funW c)).toNat - 1) (funRest c)).length : Int) < leastT (funW c) then .error 1
  else funB E v (funW c) (argsT ((mostT (funW c)).toNat - 1) (funRest c)) n
def valB (g : BT → Nat → R) (v : EnvT) (x : BT) (n : Nat) : R :=
  match getT v x with
  | none => .ok (n, [])
  | some y => if y.2.2 = true then finR n y.2.1 else g y.2.1 n
/-- What a reference, and a variable's value, tell, so many levels above the deepest one. -/
def levR : Nat → (EnvT → BT → Nat → R) × (EnvT → BT → Nat → R)
  | 0 => (fun _ _ _ => .error 15, fun v x n => valB (fun _ _ => .error 15) v x n)
  | k + 1 =>
    (fun v c n => stepR n fun m => refB (fun v' s m' => textR ((levR k).1 v') ((levR k).2 v') s m') (levR k).2 v c m,
     fun v x n => valB (fun s n' => stepR n' fun m => textR ((levR k).1 v) ((levR k).2 v) s m) v x n)
def refE (k : Nat) (v : EnvT) (c : BT) (n : Nat) : R := (levR k).1 v c n
def valE (k : Nat) (v : EnvT) (x : BT) (n : Nat) : R := (levR k).2 v x n
def textE (k : Nat) (v : EnvT) (s : BT) (n : Nat) : R := textR (refE k v) (valE k v) s n
def expandT (v : EnvT) (s : BT) : BT × Int := match textE 20 v s 0 with | .error e => ([], e) | .ok y => (y.2, 0)
theorem ref_zero (v : EnvT) (c : BT) (n : Nat) : refE 0 v c n = .error 15 := rfl
theorem val_zero (v : EnvT) (x : BT) (n : Nat) : valE 0 v x n = valB (fun _ _ => .error 15) v x n := rfl
theorem ref_succ (k : Nat) (v : EnvT) (c : BT) (n : Nat) : refE (k + 1) v c n = stepR n (refB (textE k) (valE k) v c) := rfl
theorem val_succ (k : Nat) (v : EnvT) (x : BT) (n : Nat) : valE (k + 1) v x n = valB (fun s n' => stepR n' (textE k v s)) v x n := rfl

/-! ### what the parts tell -/
section
variable {α β γ : Type}
theorem Rb_ok (n : Nat) (a : α) (f : Nat → α → Rs β) : Rb (.ok (n, a)) f = f n a := rfl
theorem Rb_err (e : Int) (f : Nat → α → Rs β) : Rb (.error e) f = .error e := rfl
theorem Rb_assoc (x : Rs α) (f : Nat → α → Rs β) (g : Nat → β → Rs γ) : Rb (Rb x f) g = Rb x fun n a => Rb (f n a) g := by
  cases x <;> rfl
theorem Rb_is {x : Rs α} {f : Nat → α → Rs β} {m : Nat} {b : β} (h : Rb x f = .ok (m, b)) : ∃ n a, x = .ok (n, a) ∧ f n a = .ok (m, b) := by
  cases x with
  | error e => cases h
  | ok y => exact ⟨y.1, y.2, rfl, h⟩
theorem Rb_self (x : Rs α) : (Rb x fun n a => .ok (n, a)) = x := by cases x <;> rfl
end
theorem fin_is {n m : Nat} {s t : BT} (h : finR n s = .ok (m, t)) : n = m ∧ s = t ∧ s.length ≤ 4000 := by
  unfold finR at h
  split at h
  · cases h
  · cases h; exact ⟨rfl, rfl, by omega⟩
theorem fin_ok (n : Nat) {s : BT} (h : s.length ≤ 4000) : finR n s = .ok (n, s) := if_neg (by omega)
theorem fin_err (n : Nat) {s : BT} (h : 4000 < s.length) : finR n s = .error 3 := if_pos h
section
variable {rf vf : BT → Nat → R}
theorem dol_cons (c : UInt8) (r : BT) (n : Nat) : dolR rf vf (c :: r) n = if c = 36 then .ok (n, [36], r) else if c = 40 then refAt rf 41 r n else if c = 123 then refAt rf 125 r n else Rb (vf [c] n) fun m t => .ok (m, t, r) := rfl
theorem dol_rest {s : BT} {n m : Nat} {x : BT × BT} (h : dolR rf vf s n = .ok (m, x)) : x.2.length < s.length := by
  cases s with
  | nil => cases h
  | cons c r =>
    rw [dol_cons] at h
    have hr : ∀ q : UInt8, refAt rf q r n = .ok (m, x) → x.2.length < (c :: r).length := fun q hq => by
      unfold refAt at hq
      split at hq
      · cases hq
      · obtain ⟨k, t, h1, h2⟩ := Rb_is hq
        cases h2
        have := cut_short [[q]] r
        simp only [List.length_cons]
        omega
    split at h
    · cases h; simp
    · split at h
      · exact hr _ h
      · split at h
        · exact hr _ h
        · obtain ⟨k, t, h1, h2⟩ := Rb_is h
          cases h2; simp
theorem body_fuel : ∀ (f g : Nat) (s : BT) (n : Nat), s.length < f → s.length < g → bodyF rf vf f s n = bodyF rf vf g s n
  | 0, _, _, _, h, _ => absurd h (Nat.not_lt_zero _)
  | _ + 1, 0, _, _, _, h => absurd h (Nat.not_lt_zero _)
  | _ + 1, _ + 1, [], _, _, _ => rfl
  | f + 1, g + 1, c :: r, n, hf, hg => by
    simp only [List.length_cons] at hf hg
    unfold bodyF
    split
    · cases hd : dolR rf vf r n with
      | error e => rfl
      | ok y =>
        obtain ⟨y1, y2⟩ := y
        have := dol_rest hd
        rw [Rb_ok, Rb_ok, body_fuel f g y2.2 y1 (by omega) (by omega)]
    · rw [body_fuel f g r n (by omega) (by omega)]
theorem body_nil (n : Nat) : bodyR rf vf [] n = .ok (n, []) := rfl
theorem body_dol (r : BT) (n : Nat) : bodyR rf vf (36 :: r) n = Rb (dolR rf vf r n) fun m x => Rb (bodyR rf vf x.2 m) fun k u => .ok (k, x.1 ++ u) := by
  show bodyF rf vf ((36 :: r).length + 1) (36 :: r) n = _
  conv => lhs; unfold bodyF
  rw [if_pos rfl]
  cases hd : dolR rf vf r n with
  | error e => rfl
  | ok y =>
    obtain ⟨y1, y2⟩ := y
    have := dol_rest hd
    rw [Rb_ok, Rb_ok]
    unfold bodyR
    rw [body_fuel (36 :: r).length (y2.2.length + 1) y2.2 y1 (by simp only [List.length_cons]; omega) (by omega)]
theorem body_byte {c : UInt8} (hc : c ≠ 36) (r : BT) (n : Nat) : bodyR rf vf (c :: r) n = Rb (bodyR rf vf r n) fun k u => .ok (k, c :: u) := by
  show bodyF rf vf ((c :: r).length + 1) (c :: r) n = _
  conv => lhs; unfold bodyF
  rw [if_neg hc]
  rfl
theorem body_plain : ∀ (a r : BT) (n : Nat), 36 ∉ a → bodyR rf vf (a ++ r) n = Rb (bodyR rf vf r n) fun k u => .ok (k, a ++ u)
  | [], r, n, _ => (Rb_self _).symm
  | c :: a, r, n, h => by
    have h1 : c ≠ 36 := fun e => h (by simp [e])
    rw [List.cons_append, body_byte h1, body_plain a r n (fun e => h (by simp [e])), Rb_assoc]
    rfl
theorem body_all (a : BT) (n : Nat) (h : 36 ∉ a) : bodyR rf vf a n = .ok (n, a) := by
  have := body_plain (rf := rf) (vf := vf) a [] n h
  rw [List.append_nil, body_nil] at this
  rw [this]
  show Except.ok (n, a ++ []) = _
  rw [List.append_nil]
end
/-- A text up to its first dollar sign. -/
def headD (s : BT) : BT := s.takeWhile fun c => decide (c ≠ 36)
def tailD (s : BT) : BT := s.dropWhile fun c => decide (c ≠ 36)
theorem head_tail (s : BT) : headD s ++ tailD s = s := List.takeWhile_append_dropWhile
theorem head_none (s : BT) : 36 ∉ headD s := fun h => by
  have h2 : ∀ (l : BT), 36 ∈ l.takeWhile (fun c => decide (c ≠ 36)) → False := fun l => by
    induction l with
    | nil => simp
    | cons c r ih =>
      intro h
      rw [List.takeWhile_cons] at h
      split at h
      · rename_i hc
        rcases List.mem_cons.1 h with e | e
        · subst e; simp at hc
        · exact ih e
      · cases h
  exact h2 s h
theorem tail_dol (s : BT) : tailD s = [] ∨ ∃ b, tailD s = 36 :: b := by
  have h2 : ∀ (l : BT), l.dropWhile (fun c => decide (c ≠ 36)) = [] ∨ ∃ b, l.dropWhile (fun c => decide (c ≠ 36)) = 36 :: b := fun l => by
    induction l with
    | nil => exact .inl rfl
    | cons c r ih =>
      rw [List.dropWhile_cons]
      split
      · exact ih
      · rename_i hc
        have : c = 36 := by simpa using hc
        exact .inr ⟨r, by rw [this]⟩
  exact h2 s
end Go.Proofs.YtbngoodjgijmgaaGreatDoor

namespace Go.Proofs.YtbngoodjgijmgaaGreatDoor

/-! ### how long -/
def ShortR (x : R) : Prop := ∀ m t, x = .ok (m, t) → t.length ≤ 4000
theorem short_fin (n : Nat) (s : BT) : ShortR (finR n s) := fun m t h => by
  obtain ⟨_, rfl, h2⟩ := fin_is h; exact h2
theorem short_err (e : Int) : ShortR (.error e) := fun _ _ h => by cases h
theorem short_nil (n : Nat) : ShortR (.ok (n, [])) := fun _ _ h => by cases h; simp
theorem short_Rb {α : Type} {x : Rs α} {f : Nat → α → R} (h : ∀ n a, ShortR (f n a)) : ShortR (Rb x f) := fun m t e => by
  obtain ⟨n, a, _, e2⟩ := Rb_is e
  exact h n a m t e2
theorem short_text (rf vf : BT → Nat → R) (s : BT) (n : Nat) : ShortR (textR rf vf s n) := short_Rb fun _ _ => short_fin _ _
theorem short_textE (k : Nat) (v : EnvT) (s : BT) (n : Nat) : ShortR (textE k v s n) := short_text _ _ _ _
theorem short_each (f : BT → Nat → R) (s : BT) (n : Nat) : ShortR (eachR f s n) := short_Rb fun _ _ => short_fin _ _
theorem short_step {n : Nat} {f : Nat → R} (h : ∀ m, ShortR (f m)) : ShortR (stepR n f) := by
  unfold stepR; split
  · exact short_err _
  · exact h _
theorem short_callR (m : Nat) (w : BT) (l : List BT) : ShortR (callR m (callT w l)) := fun k t h => by
  unfold callR at h
  split at h
  · rename_i h0
    cases h
    unfold callT at h0 ⊢
    split
    · simp
    · rename_i hm
      rw [if_neg hm] at h0
      split
      · rename_i hl
        rw [if_pos hl] at h0
        cases ha : ansT w l with
        | none => simp [finT]
        | some u =>
          rw [ha] at h0
          simp only [finT] at h0 ⊢
          split
          · assumption
          · simp
      · simp
  · cases h
theorem short_val {g : BT → Nat → R} (hg : ∀ s n, ShortR (g s n)) (v : EnvT) (x : BT) (n : Nat) : ShortR (valB g v x n) := by
  unfold valB
  split
  · exact short_nil _
  · split
    · exact short_fin _ _
    · exact hg _ _
theorem short_ref {E vf : EnvT → BT → Nat → R} (hE : ∀ v s n, ShortR (E v s n)) (hv : ∀ v s n, ShortR (vf v s n)) (v : EnvT) (c : BT) (n : Nat) : ShortR (refB E vf v c n) := by
  unfold refB
  split
  · unfold varB
    split
    · exact short_Rb fun _ _ => hv _ _ _
    · exact short_Rb fun _ _ => short_Rb fun _ _ => short_each _ _ _
  · split
    · exact short_err _
    · unfold funB
      split
      · unfold chooseR
        refine short_Rb fun _ _ => ?_
        split
        · exact hE _ _ _
        · split
          · exact short_nil _
          · exact hE _ _ _
      · split
        · exact short_Rb fun _ _ => short_each _ _ _
        · split
          · exact short_Rb fun _ _ => hE _ _ _
          · exact short_Rb fun _ _ => short_callR _ _ _
theorem short_valE (k : Nat) (v : EnvT) (x : BT) (n : Nat) : ShortR (valE k v x n) := by
  cases k with
  | zero => exact short_val (fun _ _ => short_err _) _ _ _
  | succ k => exact short_val (g := fun s n' => stepR n' (textE k v s)) (fun _ _ => short_step fun _ => short_textE _ _ _ _) _ _ _
theorem short_refE (k : Nat) (v : EnvT) (c : BT) (n : Nat) : ShortR (refE k v c n) := by
  cases k with
  | zero => exact short_err _
  | succ k => exact short_step fun _ => short_ref (fun _ _ _ => short_textE _ _ _ _) (fun _ _ _ => short_valE _ _ _ _) _ _ _

/-! ### more room -/
/-- What is right at n is right below n, and in a place with more room, and comes to the same. -/
def Mn {α : Type} (f g : Nat → Rs α) : Prop := ∀ n m a, f n = .ok (m, a) → n ≤ m ∧ ∀ n', n' ≤ n → g n' = .ok (n' + (m - n), a)
section
variable {α β : Type}
theorem Mn.rb {f g : Nat → Rs α} {p q : Nat → α → Rs β} (h : Mn f g) (hp : ∀ a, Mn (fun n => p n a) (fun n => q n a)) : Mn (fun n => Rb (f n) p) (fun n => Rb (g n) q) := fun n m b e => by
  obtain ⟨k, a, e1, e2⟩ := Rb_is e
  obtain ⟨h1, h2⟩ := h n k a e1
  obtain ⟨h3, h4⟩ := hp a k m b e2
  refine ⟨by omega, fun n' hn => ?_⟩
  show Rb (g n') q = _
  rw [h2 n' hn]
  show q (n' + (k - n)) a = _
  have h5 := h4 (n' + (k - n)) (by omega)
  rw [show q (n' + (k - n)) a = _ from h5]
  congr 2
  omega
theorem Mn.ok (a : α) : Mn (fun n => .ok (n, a)) (fun n => .ok (n, a)) := fun n m b e => by
  cases e
  exact ⟨Nat.le_refl _, fun n' _ => by rw [Nat.sub_self, Nat.add_zero]⟩
theorem Mn.err (e : Int) (g : Nat → Rs α) : Mn (fun _ => .error e) g := fun _ _ _ h => by cases h
theorem Mn.step {f g : Nat → R} (h : Mn f g) : Mn (fun n => stepR n f) (fun n => stepR n g) := fun n m a e => by
  have e' : (if 2000 ≤ n then Except.error 12 else f (n + 1)) = Except.ok (m, a) := e
  split at e'
  · cases e'
  · have e := e'
    obtain ⟨h1, h2⟩ := h _ _ _ e
    refine ⟨by omega, fun n' hn => ?_⟩
    show stepR n' g = _
    unfold stepR
    rw [if_neg (by omega), h2 (n' + 1) (by omega)]
    congr 2
    omega
theorem Mn.fin (s : BT) : Mn (fun n => finR n s) (fun n => finR n s) := fun n m a e => by
  obtain ⟨rfl, rfl, h⟩ := fin_is e
  exact ⟨Nat.le_refl _, fun n' _ => by rw [Nat.sub_self, Nat.add_zero]; exact fin_ok _ h⟩
end
def Mn2 (f g : BT → Nat → R) : Prop := ∀ s, Mn (f s) (g s)
theorem Mn.texts {f g : BT → Nat → R} (h : Mn2 f g) : ∀ l : List BT, Mn (textsR f l) (textsR g l)
  | [] => Mn.ok []
  | s :: r => (h s).rb fun _ => (Mn.texts h r).rb fun _ => Mn.ok _
theorem Mn.each {f g : BT → Nat → R} (h : Mn2 f g) (s : BT) : Mn (eachR f s) (eachR g s) := (Mn.texts h _).rb fun _ => Mn.fin _
theorem Mn.refAt {f g : BT → Nat → R} (h : Mn2 f g) (q : UInt8) (r : BT) : Mn (Go.Proofs.YtbngoodjgijmgaaGreatDoor.refAt f q r) (Go.Proofs.YtbngoodjgijmgaaGreatDoor.refAt g q r) := by
  intro n m a e
  unfold Go.Proofs.YtbngoodjgijmgaaGreatDoor.refAt at e ⊢
  split at e
  · cases e
  · rename_i h0
    simp only [h0, if_false]
    exact ((h _).rb fun _ => Mn.ok _) n m a e
theorem Mn.dol {rf vf rf' vf' : BT → Nat → R} (hr : Mn2 rf rf') (hv : Mn2 vf vf') : ∀ s : BT, Mn (dolR rf vf s) (dolR rf' vf' s)
  | [] => Mn.err _ _
  | c :: r => by
    by_cases h1 : c = 36
    · have e : ∀ rf vf : BT → Nat → R, dolR rf vf (c :: r) = fun n => .ok (n, [36], r) := fun rf vf => by funext n; rw [dol_cons, if_pos h1]
      rw [e, e]; exact Mn.ok _
    by_cases h2 : c = 40
    · have e : ∀ rf vf : BT → Nat → R, dolR rf vf (c :: r) = Go.Proofs.YtbngoodjgijmgaaGreatDoor.refAt rf 41 r := fun rf vf => by funext n; rw [dol_cons, if_neg h1, if_pos h2]
      rw [e, e]; exact Mn.refAt hr _ _
    by_cases h3 : c = 123
    · have e : ∀ rf vf : BT → Nat → R, dolR rf vf (c :: r) = Go.Proofs.YtbngoodjgijmgaaGreatDoor.refAt rf 125 r := fun rf vf => by funext n; rw [dol_cons, if_neg h1, if_neg h2, if_pos h3]
      rw [e, e]; exact Mn.refAt hr _ _
    · have e : ∀ rf vf : BT → Nat → R, dolR rf vf (c :: r) = fun n => Rb (vf [c] n) fun m t => .ok (m, t, r) := fun rf vf => by funext n; rw [dol_cons, if_neg h1, if_neg h2, if_neg h3]
      rw [e, e]; exact (hv _).rb fun _ => Mn.ok _
theorem Mn.body {rf vf rf' vf' : BT → Nat → R} (hr : Mn2 rf rf') (hv : Mn2 vf vf') : ∀ (f : Nat) (s : BT), Mn (bodyF rf vf f s) (bodyF rf' vf' f s)
  | 0, _ => Mn.err _ _
  | _ + 1, [] => Mn.ok _
  | f + 1, c :: r => by
    by_cases h1 : c = 36
    · have e : ∀ rf vf : BT → Nat → R, bodyF rf vf (f + 1) (c :: r) = fun n => Rb (dolR rf vf r n) fun m x => Rb (bodyF rf vf f x.2 m) fun k u => .ok (k, x.1 ++ u) := fun rf vf => by
        funext n
        conv => lhs; unfold bodyF
        rw [if_pos h1]
      rw [e, e]
      exact (Mn.dol hr hv r).rb fun x => (Mn.body hr hv f x.2).rb fun _ => Mn.ok _
    · have e : ∀ rf vf : BT → Nat → R, bodyF rf vf (f + 1) (c :: r) = fun n => Rb (bodyF rf vf f r n) fun k u => .ok (k, c :: u) := fun rf vf => by
        funext n
        conv => lhs; unfold bodyF
        rw [if_neg h1]
      rw [e, e]
      exact (Mn.body hr hv f r).rb fun _ => Mn.ok _
theorem Mn.text {rf vf rf' vf' : BT → Nat → R} (hr : Mn2 rf rf') (hv : Mn2 vf vf') (s : BT) : Mn (textR rf vf s) (textR rf' vf' s) := (Mn.body hr hv _ s).rb fun _ => Mn.fin _
def Mn3 (f g : EnvT → BT → Nat → R) : Prop := ∀ v, Mn2 (f v) (g v)
theorem Mn.callR (x : BT × Int) : Mn (fun n => Go.Proofs.YtbngoodjgijmgaaGreatDoor.callR n x) (fun n => Go.Proofs.YtbngoodjgijmgaaGreatDoor.callR n x) := by
  unfold Go.Proofs.YtbngoodjgijmgaaGreatDoor.callR
  by_cases h : x.2 = 0
  · simp only [h, if_true]; exact Mn.ok _
  · simp only [h, if_false]; exact Mn.err _ _
theorem Mn.congr {α : Type} {f f' g g' : Nat → Rs α} (ef : ∀ n, f n = f' n) (eg : ∀ n, g n = g' n) (h : Mn f' g') : Mn f g := by
  rw [show f = f' from funext ef, show g = g' from funext eg]; exact h
theorem Mn.choose {E E' : BT → Nat → R} (hE : Mn2 E E') (args : List BT) : Mn (chooseR E args) (chooseR E' args) := by
  refine (hE _).rb fun t => ?_
  by_cases h3 : trimOf t ≠ []
  · exact Mn.congr (fun n => if_pos h3) (fun n => if_pos h3) (hE _)
  by_cases h4 : args.length < 3
  · exact Mn.congr (fun n => (if_neg h3).trans (if_pos h4)) (fun n => (if_neg h3).trans (if_pos h4)) (Mn.ok _)
  · exact Mn.congr (fun n => (if_neg h3).trans (if_neg h4)) (fun n => (if_neg h3).trans (if_neg h4)) (hE _)
theorem Mn.funB {E E' : EnvT → BT → Nat → R} (hE : Mn3 E E') (v : EnvT) (w : BT) (args : List BT) : Mn (Go.Proofs.YtbngoodjgijmgaaGreatDoor.funB E v w args) (Go.Proofs.YtbngoodjgijmgaaGreatDoor.funB E' v w args) := by
  by_cases h2 : w = nIf
  · exact Mn.congr (fun n => if_pos h2) (fun n => if_pos h2) (Mn.choose (hE v) args)
  by_cases h3 : w = nForeach
  · exact Mn.congr (fun n => (if_neg h2).trans (if_pos h3)) (fun n => (if_neg h2).trans (if_pos h3)) ((Mn.texts (hE v) _).rb fun l => Mn.each (fun w => Mn.step (hE _ _)) _)
  by_cases h4 : w = nCallW
  · exact Mn.congr (fun n => (if_neg h2).trans ((if_neg h3).trans (if_pos h4))) (fun n => (if_neg h2).trans ((if_neg h3).trans (if_pos h4))) ((Mn.texts (hE v) _).rb fun l => hE _ _)
  · exact Mn.congr (fun n => (if_neg h2).trans ((if_neg h3).trans (if_neg h4))) (fun n => (if_neg h2).trans ((if_neg h3).trans (if_neg h4))) ((Mn.texts (hE v) _).rb fun l => Mn.callR _)
theorem Mn.varB {E E' vf vf' : EnvT → BT → Nat → R} (hE : Mn3 E E') (hv : Mn3 vf vf') (v : EnvT) (c : BT) : Mn (Go.Proofs.YtbngoodjgijmgaaGreatDoor.varB E vf v c) (Go.Proofs.YtbngoodjgijmgaaGreatDoor.varB E' vf' v c) := by
  by_cases h : (cutOf [[61]] (cutOf [[58]] c).2.2).2.1 = []
  · exact Mn.congr (fun n => if_pos h) (fun n => if_pos h) ((hE v c).rb fun x => hv v x)
  · exact Mn.congr (fun n => if_neg h) (fun n => if_neg h) ((Mn.texts (hE v) _).rb fun l => (hv v _).rb fun s => Mn.each (fun w => Mn.ok _) s)
theorem Mn.ref {E E' vf vf' : EnvT → BT → Nat → R} (hE : Mn3 E E') (hv : Mn3 vf vf') (v : EnvT) (c : BT) : Mn (refB E vf v c) (refB E' vf' v c) := by
  by_cases h0 : mostT (funW c) = 0
  · exact Mn.congr (fun n => if_pos h0) (fun n => if_pos h0) (Mn.varB hE hv v c)
  by_cases h1 : ((argsT ((mostT (funW c)).toNat - 1) (funRest c)).length : Int) < leastT (funW c)
  · exact Mn.congr (fun n => (if_neg h0).trans (if_pos h1)) (fun n => (if_neg h0).trans (if_pos h1)) (Mn.err _ _)
  · exact Mn.congr (fun n => (if_neg h0).trans (if_neg h1)) (fun n => (if_neg h0).trans (if_neg h1)) (Mn.funB hE v _ _)
theorem Mn.val {g g' : BT → Nat → R} (h : Mn2 g g') (v : EnvT) (x : BT) : Mn (valB g v x) (valB g' v x) := by
  unfold valB
  cases getT v x with
  | none => exact Mn.ok _
  | some y =>
    by_cases h1 : y.2.2 = true
    · simp only [h1, if_true]; exact Mn.fin _
    · simp only [h1]; exact h _
theorem lev_more : ∀ k : Nat, Mn3 (refE k) (refE (k + 1)) ∧ Mn3 (valE k) (valE (k + 1))
  | 0 => ⟨fun v c => Mn.err 15 _, fun v x => Mn.val (g := fun _ _ => .error 15) (g' := fun s n' => stepR n' (textE 0 v s)) (fun s => Mn.err 15 _) v x⟩
  | k + 1 => by
    obtain ⟨h1, h2⟩ := lev_more k
    have hE : Mn3 (textE k) (textE (k + 1)) := fun v s => Mn.text (h1 v) (h2 v) s
    exact ⟨fun v c => Mn.step (Mn.ref hE h2 v c), fun v x => Mn.val (g := fun s n' => stepR n' (textE k v s)) (g' := fun s n' => stepR n' (textE (k + 1) v s)) (fun s => Mn.step (hE v s)) v x⟩
theorem text_more (k : Nat) : Mn3 (textE k) (textE (k + 1)) := fun v s => Mn.text ((lev_more k).1 v) ((lev_more k).2 v) s
theorem Mn.trans' {α : Type} {f g h : Nat → Rs α} (h1 : Mn f g) (h2 : Mn g h) : Mn f h := fun n m a e => by
  obtain ⟨k1, k2⟩ := h1 n m a e
  refine ⟨k1, fun n' hn => ?_⟩
  have h3 := k2 n' hn
  obtain ⟨k3, k4⟩ := h2 n' _ a h3
  have := k4 n' (Nat.le_refl _)
  rw [this]
  congr 2
  omega
theorem text_up (j k : Nat) (v : EnvT) (s : BT) : Mn (textE k v s) (textE (k + (j + 1)) v s) := by
  induction j with
  | zero => exact text_more k v s
  | succ j ih => exact ih.trans' (text_more (k + (j + 1)) v s)

/-! ### two texts -/
theorem sign_one (q c : UInt8) (r : BT) : signAt [[q]] (c :: r) = if c = q then some [q] else none := by
  unfold signAt
  by_cases h : c = q
  · subst h; simp [List.isPrefixOf]
  · have : (q == c) = false := by simpa using fun e : q = c => h e.symm
    simp [List.isPrefixOf, this, h]
theorem cutW_app (q : UInt8) (hq36 : q ≠ 36) (t : BT) : ∀ (s : BT) (st : List UInt8), (cutW [[q]] st s).2.1 ≠ [] → cutW [[q]] st (s ++ t) = ((cutW [[q]] st s).1, (cutW [[q]] st s).2.1, (cutW [[q]] st s).2.2 ++ t)
  | [], st, h => absurd (by rw [cutW_nil]) h
  | c :: r, st, h => by
    have put : ∀ (st' : List UInt8), cutW [[q]] st (c :: r) = Cut3.put c (cutW [[q]] st' r) → cutW [[q]] st (c :: r ++ t) = Cut3.put c (cutW [[q]] st' (r ++ t)) → cutW [[q]] st (c :: r ++ t) = ((cutW [[q]] st (c :: r)).1, (cutW [[q]] st (c :: r)).2.1, (cutW [[q]] st (c :: r)).2.2 ++ t) := fun st' e1 e2 => by
      rw [e1] at h
      have ih := cutW_app q hq36 t r st' h
      rw [e2, ih, e1]; rfl
    cases ho : opens (c :: r) with
    | some o =>
      cases r with
      | nil => cases ho
      | cons d r =>
        exact put (o :: st) (cutW_begin ho) (cutW_begin (c := c) (r := d :: r ++ t) ho)
    | none =>
      have ho2 : opens (c :: r ++ t) = none ∨ (r = [] ∧ c = 36) := by
        cases r with
        | nil =>
          by_cases hc : c = 36
          · exact .inr ⟨rfl, hc⟩
          · exact .inl (opens_none hc)
        | cons d r => exact .inl ho
      rcases ho2 with ho2 | ⟨rfl, rfl⟩
      · by_cases hs : st.head? = some c
        · exact put st.tail (cutW_close ho hs) (cutW_close (r := r ++ t) ho2 hs)
        by_cases hn : st = []
        · subst hn
          by_cases hq : c = q
          · have e1 : signAt [[q]] (c :: r) = some [q] := by rw [sign_one, if_pos hq]
            have e2 : signAt [[q]] (c :: (r ++ t)) = some [q] := by rw [sign_one, if_pos hq]
            rw [cutW_sign ho e1, List.cons_append, cutW_sign (r := r ++ t) ho2 e2]
            rfl
          · have e1 : signAt [[q]] (c :: r) = none := by rw [sign_one, if_neg hq]
            have e2 : signAt [[q]] (c :: (r ++ t)) = none := by rw [sign_one, if_neg hq]
            exact put [] (cutW_out ho e1) (cutW_out (r := r ++ t) ho2 e2)
        · exact put st (cutW_in ho hs hn) (cutW_in (r := r ++ t) ho2 hs hn)
      · refine absurd ?_ h
        by_cases hs : st.head? = some 36
        · rw [cutW_close ho hs]
          show (cutW [[q]] st.tail []).2.1 = []
          rw [cutW_nil]
        by_cases hn : st = []
        · subst hn
          by_cases hq : (36 : UInt8) = q
          · exact absurd hq.symm hq36
          · have e1 : signAt [[q]] ([36] : BT) = none := by rw [sign_one, if_neg hq]
            rw [cutW_out ho e1]
            show (cutW [[q]] [] []).2.1 = []
            rw [cutW_nil]
        · rw [cutW_in ho hs hn]
          show (cutW [[q]] st []).2.1 = []
          rw [cutW_nil]
theorem dol_app {rf vf : BT → Nat → R} {s t : BT} {n m : Nat} {x : BT × BT} (h : dolR rf vf s n = .ok (m, x)) : dolR rf vf (s ++ t) n = .ok (m, x.1, x.2 ++ t) := by
  cases s with
  | nil => cases h
  | cons c r =>
    rw [dol_cons] at h
    rw [List.cons_append, dol_cons]
    have hr : ∀ q : UInt8, q ≠ 36 → refAt rf q r n = .ok (m, x) → refAt rf q (r ++ t) n = .ok (m, x.1, x.2 ++ t) := fun q hq36 hq => by
      unfold refAt at hq ⊢
      split at hq
      · cases hq
      · rename_i h0
        have e := cutW_app q hq36 t r [] h0
        obtain ⟨k, u, h1, h2⟩ := Rb_is hq
        cases h2
        rw [show cutOf [[q]] (r ++ t) = ((cutOf [[q]] r).1, (cutOf [[q]] r).2.1, (cutOf [[q]] r).2.2 ++ t) from e, if_neg h0, h1]
        rfl
    split at h
    · rename_i h1
      cases h
      rw [if_pos h1]
    · rename_i h1
      rw [if_neg h1]
      split at h
      · rename_i h2
        rw [if_pos h2]
        exact hr _ (by decide) h
      · rename_i h2
        rw [if_neg h2]
        split at h
        · rename_i h3
          rw [if_pos h3]
          exact hr _ (by decide) h
        · rename_i h3
          rw [if_neg h3]
          obtain ⟨k, u, h4, h5⟩ := Rb_is h
          cases h5
          rw [h4]
          rfl
theorem body_two {rf vf : BT → Nat → R} (t : BT) : ∀ (f : Nat) (s : BT) (n m : Nat) (a : BT), s.length < f → bodyR rf vf s n = .ok (m, a) → bodyR rf vf (s ++ t) n = Rb (bodyR rf vf t m) fun k u => .ok (k, a ++ u)
  | 0, _, _, _, _, h, _ => absurd h (Nat.not_lt_zero _)
  | _ + 1, [], n, m, a, _, h => by
    rw [body_nil] at h
    cases h
    exact (Rb_self _).symm
  | f + 1, c :: r, n, m, a, hf, h => by
    simp only [List.length_cons] at hf
    by_cases hc : c = 36
    · subst hc
      rw [body_dol] at h
      obtain ⟨k, x, h1, h2⟩ := Rb_is h
      obtain ⟨j, u, h3, h4⟩ := Rb_is h2
      cases h4
      have hl := dol_rest h1
      have hd := dol_app (t := t) h1
      rw [List.cons_append, body_dol, hd, Rb_ok]
      simp only
      rw [body_two t f x.2 k m u (by omega) h3, Rb_assoc]
      congr 1
      funext n a
      show Except.ok (n, x.1 ++ (u ++ a)) = Except.ok (n, x.1 ++ u ++ a)
      rw [List.append_assoc]
    · rw [body_byte hc] at h
      obtain ⟨j, u, h3, h4⟩ := Rb_is h
      cases h4
      rw [List.cons_append, body_byte hc, body_two t f r n m u (by omega) h3, Rb_assoc]
      rfl
end Go.Proofs.YtbngoodjgijmgaaGreatDoor
