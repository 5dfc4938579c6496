/-
  What a condition, a call and a foreach tell of three simple variables. No program, no world. No condition but sizes.
-/
import Derived.Test.YtbngoodjgijmgaaGreatDoorVAp
namespace Go.Proofs.YtbngoodjgijmgaaGreatDoor

/-! ### a reference to one good letter, wherever it stands -/
theorem cut_close2 (c : UInt8) (r : BT) (h36 : c ≠ 36) (h : c ≠ 41) : cutOf [[41]] (c :: 41 :: r) = ([c], [41], r) := by
  unfold cutOf
  rw [cutW_out (opens_none h36) (by rw [sign_one, if_neg h]), cutW_sign (x := [41]) (opens_none (by decide)) (by rw [sign_one, if_pos rfl])]
  rfl
theorem ref_one (env : EnvT) (k m : Nat) (c : UInt8) (h : GoodN c) (n t : BT) (hg : getT env [c] = some (n, t, true)) (ht : t.length ≤ 4000) (hm : m < 2000) : refE (k + 1) env [c] m = .ok (m + 1, t) := by
  obtain ⟨_, h58, hb, h36⟩ := h
  rw [ref_name env k m c h58 hb h36 hm, val_simple env k (m + 1) [c] t n hg ht]
theorem body_one (env : EnvT) (k m : Nat) (c : UInt8) (h : GoodN c) (n t r : BT) (hg : getT env [c] = some (n, t, true)) (ht : t.length ≤ 4000) (hm : m < 2000) :
    bodyR (refE (k + 1) env) (valE (k + 1) env) (36 :: 40 :: c :: 41 :: r) m = Rb (bodyR (refE (k + 1) env) (valE (k + 1) env) r (m + 1)) fun j u => .ok (j, t ++ u) := by
  rw [body_dol, dol_cons, if_neg (by decide), if_pos rfl]
  unfold refAt
  rw [cut_close2 c r h.2.2.2 h.1, if_neg (by simp)]
  dsimp only
  rw [ref_one env k m c h n t hg ht hm, Rb_ok, Rb_ok]
theorem text_one (env : EnvT) (k m : Nat) (c : UInt8) (h : GoodN c) (n t : BT) (hg : getT env [c] = some (n, t, true)) (ht : t.length ≤ 4000) (hm : m < 2000) : textE (k + 1) env [36, 40, c, 41] m = .ok (m + 1, t) := by
  unfold textE textR
  rw [body_one env k m c h n t [] hg ht hm, body_nil, Rb_ok, Rb_ok, List.append_nil, fin_ok _ ht]
theorem text_plain (env : EnvT) (k m : Nat) (s : BT) (h : 36 ∉ s) (hl : s.length ≤ 4000) : textE k env s m = .ok (m, s) := by
  unfold textE textR
  rw [body_all s m h, Rb_ok, fin_ok _ hl]
/-- A text that is one reference. -/
theorem expand_ref (env : EnvT) (r c : BT) (m : Nat) (t : BT) (hc : cutOf [[41]] r = (c, [41], [])) (hr : refE 20 env c 0 = .ok (m, t)) (ht : t.length ≤ 4000) : expandT env (36 :: 40 :: r) = (t, 0) := by
  unfold expandT textE textR
  rw [body_dol, dol_cons, if_neg (by decide), if_pos rfl]
  unfold refAt
  rw [hc, if_neg (by simp)]
  dsimp only
  rw [hr, Rb_ok, Rb_ok, body_nil, Rb_ok, Rb_ok, List.append_nil, fin_ok _ ht]

/-! ### the four variables -/
def ways4 (a b c : BT) : EnvT := [([97], a, true), ([98], b, true), ([99], c, true), ([102], [91, 36, 40, 49, 41, 124, 36, 40, 50, 41, 93], false)]
theorem get_rows (l : EnvT) (x : VarT) (n : BT) : getT (rowsE (l ++ [x])) n = if n = x.1 then some x else getT (rowsE l) n := by rw [rows_snoc, get_set n (rows_srt l)]
theorem ways_get (a b c : BT) (n : BT) : getT (rowsE (ways4 a b c)) n = if n = [102] then some ([102], [91, 36, 40, 49, 41, 124, 36, 40, 50, 41, 93], false) else if n = [99] then some ([99], c, true) else if n = [98] then some ([98], b, true) else if n = [97] then some ([97], a, true) else none := by
  show getT (rowsE ([([97], a, true), ([98], b, true), ([99], c, true)] ++ [([102], [91, 36, 40, 49, 41, 124, 36, 40, 50, 41, 93], false)])) n = _
  rw [get_rows]
  show (if n = [102] then _ else getT (rowsE ([([97], a, true), ([98], b, true)] ++ [([99], c, true)])) n) = _
  rw [get_rows]
  show (if n = [102] then _ else if n = [99] then _ else getT (rowsE ([([97], a, true)] ++ [([98], b, true)])) n) = _
  rw [get_rows]
  show (if n = [102] then _ else if n = [99] then _ else if n = [98] then _ else getT (rowsE ([] ++ [([97], a, true)])) n) = _
  rw [get_rows]
  rfl
theorem good_a : GoodN 97 := by unfold GoodN; decide
theorem good_b : GoodN 98 := by unfold GoodN; decide
theorem good_c : GoodN 99 := by unfold GoodN; decide
theorem good_1 : GoodN 49 := by unfold GoodN; decide
theorem good_2 : GoodN 50 := by unfold GoodN; decide
section
variable (a b c : BT)
theorem get_a : getT (rowsE (ways4 a b c)) [97] = some ([97], a, true) := by rw [ways_get]; rfl
theorem get_b : getT (rowsE (ways4 a b c)) [98] = some ([98], b, true) := by rw [ways_get]; rfl
theorem get_c : getT (rowsE (ways4 a b c)) [99] = some ([99], c, true) := by rw [ways_get]; rfl
theorem get_f : getT (rowsE (ways4 a b c)) [102] = some ([102], [91, 36, 40, 49, 41, 124, 36, 40, 50, 41, 93], false) := by rw [ways_get]; rfl
end

/-! ### a condition -/
abbrev ifC : BT := [105, 102, 32, 36, 40, 97, 41, 44, 36, 40, 98, 41, 44, 36, 40, 99, 41]
theorem ways_if (a b c : BT) (ha : a.length ≤ 4000) (hb : b.length ≤ 4000) (hc : c.length ≤ 4000) :
    expandT (rowsE (ways4 a b c)) [36, 40, 105, 102, 32, 36, 40, 97, 41, 44, 36, 40, 98, 41, 44, 36, 40, 99, 41, 41] = (if trimOf a = [] then c else b, 0) := by
  have h1 : mostT (funW ifC) ≠ 0 := by decide
  have h2 : argsT ((mostT (funW ifC)).toNat - 1) (funRest ifC) = [[36, 40, 97, 41], [36, 40, 98, 41], [36, 40, 99, 41]] := by decide
  have h3 : leastT (funW ifC) = 2 := by decide
  have h4 : funW ifC = nIf := by decide
  have ta := text_one (rowsE (ways4 a b c)) 18 1 97 good_a [97] a (get_a a b c) ha (by decide)
  have tb := text_one (rowsE (ways4 a b c)) 18 2 98 good_b [98] b (get_b a b c) hb (by decide)
  have tc := text_one (rowsE (ways4 a b c)) 18 2 99 good_c [99] c (get_c a b c) hc (by decide)
  refine expand_ref _ _ ifC 3 _ (by decide) ?_ (by split <;> assumption)
  rw [ref_succ]
  unfold stepR
  rw [if_neg (by decide)]
  unfold refB
  rw [if_neg h1, h2, h3, if_neg (by decide), h4]
  unfold funB
  rw [if_pos rfl]
  unfold chooseR
  show Rb (textE 19 _ [36, 40, 97, 41] 1) _ = _
  rw [ta, Rb_ok]
  by_cases h : trimOf a = []
  · rw [if_pos h, if_neg (by simpa using h)]
    show (if 3 < 3 then _ else textE 19 _ [36, 40, 99, 41] 2) = _
    rw [if_neg (by decide), tc]
  · rw [if_neg h, if_pos h]
    exact tb

/-! ### a call -/
abbrev callC : BT := [99, 97, 108, 108, 32, 102, 44, 36, 40, 97, 41, 44, 36, 40, 98, 41]
theorem ways_call (a b c : BT) (ha : a.length ≤ 1500) (hb : b.length ≤ 1500) :
    expandT (rowsE (ways4 a b c)) [36, 40, 99, 97, 108, 108, 32, 102, 44, 36, 40, 97, 41, 44, 36, 40, 98, 41, 41] = (91 :: a ++ 124 :: b ++ [93], 0) := by
  have h1 : mostT (funW callC) ≠ 0 := by decide
  have h2 : argsT ((mostT (funW callC)).toNat - 1) (funRest callC) = [[102], [36, 40, 97, 41], [36, 40, 98, 41]] := by decide
  have h3 : leastT (funW callC) = 1 := by decide
  have h4 : funW callC = nCallW := by decide
  have ta := text_one (rowsE (ways4 a b c)) 18 1 97 good_a [97] a (get_a a b c) (by omega) (by decide)
  have tb := text_one (rowsE (ways4 a b c)) 18 2 98 good_b [98] b (get_b a b c) (by omega) (by decide)
  have tf := text_plain (rowsE (ways4 a b c)) 19 1 [102] (by decide) (by decide)
  have hE : textsR (textE 19 (rowsE (ways4 a b c))) [[102], [36, 40, 97, 41], [36, 40, 98, 41]] 1 = .ok (3, [[102], a, b]) := by
    unfold textsR
    rw [tf, Rb_ok]
    unfold textsR
    rw [ta, Rb_ok]
    unfold textsR
    rw [tb, Rb_ok]
    rfl
  obtain ⟨env, he⟩ : ∃ env, env = putT (rowsE (ways4 a b c)) 0 [[102], a, b] := ⟨_, rfl⟩
  have he' : env = setT (setT (setT (rowsE (ways4 a b c)) (decOf 0, [102], true)) (decOf 1, a, true)) (decOf 2, b, true) := he
  have s0 : SrtT (setT (rowsE (ways4 a b c)) (decOf 0, [102], true)) := set_srt (rows_srt _)
  have s1 : SrtT (setT (setT (rowsE (ways4 a b c)) (decOf 0, [102], true)) (decOf 1, a, true)) := set_srt s0
  have d1 : decOf 1 = [49] := by decide +kernel
  have d2 : decOf 2 = [50] := by decide +kernel
  have g2 : getT env [50] = some ([50], b, true) := by rw [he', get_set _ s1, d2]; rfl
  have g1 : getT env [49] = some ([49], a, true) := by rw [he', get_set _ s1, d2, if_neg (fun h => absurd (show ([49] : BT) = [50] from h) (by decide)), get_set _ s0, d1]; rfl
  have tt : textE 19 env [91, 36, 40, 49, 41, 124, 36, 40, 50, 41, 93] 3 = .ok (5, 91 :: a ++ 124 :: b ++ [93]) := by
    unfold textE textR
    rw [body_byte (by decide), body_one env 18 3 49 good_1 [49] a _ g1 (by omega) (by decide), body_byte (by decide), body_one env 18 4 50 good_2 [50] b _ g2 (by omega) (by decide), body_byte (by decide), body_nil]
    simp only [Rb_ok]
    rw [fin_ok _ (by simp; omega)]
    simp
  refine expand_ref _ _ callC 5 _ (by decide) ?_ (by simp; omega)
  rw [ref_succ]
  unfold stepR
  rw [if_neg (by decide)]
  unfold refB
  rw [if_neg h1, h2, h3, if_neg (by decide), h4]
  unfold funB
  rw [if_neg (by decide), if_neg (by decide), if_pos rfl]
  unfold applyR
  rw [hE, Rb_ok]
  have hn : trimOf (([[102], a, b] : List BT).getD 0 []) = [102] := by show trimOf [102] = _; decide
  rw [hn, show ([[102], a, b] : List BT).set 0 [102] = [[102], a, b] from rfl, ← he, get_f]
  exact tt

/-! ### a foreach -/
abbrev eachC : BT := [102, 111, 114, 101, 97, 99, 104, 32, 120, 44, 36, 40, 97, 41, 44, 46]
theorem dots_told (env : EnvT) (x : BT) (k : Nat) : ∀ (l : List BT) (n : Nat), n + l.length ≤ 2000 → textsR (fun w j => stepR j fun j' => textE k (setT env (x, w, true)) [46] j') l n = .ok (n + l.length, List.replicate l.length [46])
  | [], _, _ => rfl
  | w :: l, n, h => by
    simp only [List.length_cons] at h
    unfold textsR
    have h1 : (stepR n fun j' => textE k (setT env (x, w, true)) [46] j') = .ok (n + 1, [46]) := by
      unfold stepR
      rw [if_neg (by omega)]
      exact text_plain _ k _ [46] (by decide) (by decide)
    rw [h1, Rb_ok, dots_told env x k l (n + 1) (by omega), Rb_ok]
    show Except.ok _ = Except.ok _
    rw [List.length_cons, List.replicate_succ, show n + 1 + l.length = n + (l.length + 1) by omega]
def dotsT (m : Nat) : BT := joinT (List.replicate m [46])
theorem dots_zero : dotsT 0 = [] := by unfold dotsT; rfl
theorem dots_first : dotsT 1 = [46] := by unfold dotsT; rfl
theorem dots_next (m : Nat) (h : 0 < m) : dotsT (m + 1) = dotsT m ++ [32] ++ [46] := by
  unfold dotsT
  rw [List.replicate_succ', joinT_snoc, if_neg (by cases m with | zero => omega | succ k => simp [List.replicate_succ])]
theorem dots_len : ∀ m : Nat, (dotsT m).length ≤ 2 * m
  | 0 => by rw [dots_zero]; simp
  | 1 => by rw [dots_first]; simp
  | m + 2 => by
    have := dots_len (m + 1)
    rw [dots_next (m + 1) (by omega)]
    simp only [List.length_append, List.length_cons, List.length_nil]
    omega
theorem ways_each (a b c : BT) (ha : a.length ≤ 1500) :
    expandT (rowsE (ways4 a b c)) [36, 40, 102, 111, 114, 101, 97, 99, 104, 32, 120, 44, 36, 40, 97, 41, 44, 46, 41] = (dotsT (wordsT a).length, 0) := by
  have h1 : mostT (funW eachC) ≠ 0 := by decide
  have h2 : argsT ((mostT (funW eachC)).toNat - 1) (funRest eachC) = [[120], [36, 40, 97, 41], [46]] := by decide
  have h3 : leastT (funW eachC) = 3 := by decide
  have h4 : funW eachC = nForeach := by decide
  have ta := text_one (rowsE (ways4 a b c)) 18 1 97 good_a [97] a (get_a a b c) (by omega) (by decide)
  have tf := text_plain (rowsE (ways4 a b c)) 19 1 [120] (by decide) (by decide)
  have hE : textsR (textE 19 (rowsE (ways4 a b c))) (([[120], [36, 40, 97, 41], [46]] : List BT).take 2) 1 = .ok (2, [[120], a]) := by
    show textsR _ [[120], [36, 40, 97, 41]] 1 = _
    unfold textsR
    rw [tf, Rb_ok]
    unfold textsR
    rw [ta, Rb_ok]
    rfl
  have hw := words_few a
  have hl := dots_len (wordsT a).length
  refine expand_ref _ _ eachC (2 + (wordsT a).length) _ (by decide) ?_ (by omega)
  rw [ref_succ]
  unfold stepR
  rw [if_neg (by decide)]
  unfold refB
  rw [if_neg h1, h2, h3, if_neg (by decide), h4]
  unfold funB
  rw [if_neg (by decide), if_pos rfl]
  unfold forR
  rw [hE, Rb_ok]
  unfold eachR
  have hT := dots_told (rowsE (ways4 a b c)) (trimOf [120]) 19 (wordsT a) 2 (by omega)
  show Rb (textsR (fun w j => stepR j fun j' => textE 19 (setT (rowsE (ways4 a b c)) (trimOf [120], w, true)) [46] j') (wordsT a) 2) _ = _
  rw [hT, Rb_ok]
  exact fin_ok _ (by unfold dotsT at hl; omega)

/-! ### two references -/
theorem ways_two (a b c : BT) (ha : a.length + b.length ≤ 4000) : expandT (rowsE (ways4 a b c)) [36, 40, 97, 41, 36, 40, 98, 41] = (a ++ b, 0) := by
  unfold expandT textE textR
  rw [body_one (rowsE (ways4 a b c)) 19 0 97 good_a [97] a _ (get_a a b c) (by omega) (by decide), body_one (rowsE (ways4 a b c)) 19 1 98 good_b [98] b _ (get_b a b c) (by omega) (by decide), body_nil]
  simp only [Rb_ok, List.append_nil]
  rw [fin_ok _ (by simp; omega)]

/-! ### words, one byte behind the other -/
/-- How many words begin in a text; are we in one? -/
def cntW : Bool → BT → Nat
  | _, [] => 0
  | inn, c :: r => if blankB c = true then cntW false r else (if inn = true then 0 else 1) + cntW true r
theorem cnt_words : ∀ l : BT, (wordsT l).length = cntW false l ∧ ((pieces blankB l).head?.getD [] ≠ [] → cntW true l + 1 = cntW false l) ∧ ((pieces blankB l).head?.getD [] = [] → cntW true l = cntW false l)
  | [] => by refine ⟨rfl, fun h => absurd rfl h, fun _ => rfl⟩
  | c :: r => by
    obtain ⟨h1, h2, h3⟩ := cnt_words r
    by_cases hc : blankB c = true
    · have hp : pieces blankB (c :: r) = [] :: pieces blankB r := by rw [pieces, if_pos hc]
      have e1 : ∀ b, cntW b (c :: r) = cntW false r := fun b => by
        conv => lhs; unfold cntW
        rw [if_pos hc]
      refine ⟨?_, fun h => absurd (by rw [hp]; rfl) h, fun _ => by rw [e1, e1]⟩
      rw [e1, ← h1]
      unfold wordsT
      rw [hp, List.filter_cons_of_neg (by simp)]
    · have e1 : ∀ b, cntW b (c :: r) = (if b = true then 0 else 1) + cntW true r := fun b => by
        conv => lhs; unfold cntW
        rw [if_neg hc]
      cases hq : pieces blankB r with
      | nil => exact absurd hq (pieces_ne _ _)
      | cons x t =>
        have hp : pieces blankB (c :: r) = (c :: x) :: t := by rw [pieces, if_neg hc, hq]
        rw [hq] at h2 h3
        have e2 : (wordsT (c :: r)).length = 1 + (t.filter fun x => decide (x ≠ [])).length := by
          unfold wordsT
          rw [hp, List.filter_cons_of_pos (by simp)]
          simp [Nat.add_comm]
        have e3 : (wordsT r).length = (if x = [] then 0 else 1) + (t.filter fun x => decide (x ≠ [])).length := by
          unfold wordsT
          rw [hq]
          by_cases hx : x = []
          · rw [if_pos hx, List.filter_cons_of_neg (by simpa using hx)]; simp
          · rw [if_neg hx, List.filter_cons_of_pos (by simpa using hx)]; simp [Nat.add_comm]
        have e4 : cntW true r = (t.filter fun x => decide (x ≠ [])).length := by
          by_cases hx : x = []
          · have := h3 hx
            rw [if_pos hx] at e3
            omega
          · have := h2 hx
            rw [if_neg hx] at e3
            omega
        refine ⟨by rw [e2, e1, e4]; rfl, fun _ => by rw [e1, e1]; simp; omega, fun h => absurd h (by rw [hp]; simp)⟩
theorem cutL_all : ∀ l : BT, l.all blankB = true → cutL l = []
  | [], _ => rfl
  | c :: r, h => by
    rw [List.all_cons, Bool.and_eq_true] at h
    unfold cutL
    rw [List.dropWhile_cons, if_pos h.1]
    exact cutL_all r h.2
theorem cutL_some : ∀ l : BT, l.all blankB = false → ∃ c r, cutL l = c :: r ∧ blankB c = false
  | [], h => by cases h
  | c :: r, h => by
    unfold cutL
    rw [List.dropWhile_cons]
    cases hc : blankB c with
    | true =>
      rw [if_pos rfl]
      rw [List.all_cons, hc, Bool.true_and] at h
      exact cutL_some r h
    | false => exact ⟨c, r, by rw [if_neg (by simp)], hc⟩
theorem trim_all (l : BT) : trimOf l = [] ↔ l.all blankB = true := by
  cases h : l.all blankB with
  | true => exact ⟨fun _ => rfl, fun _ => by unfold trimOf; rw [cutL_all l h]; rfl⟩
  | false =>
    refine ⟨fun e => ?_, fun e => by cases e⟩
    obtain ⟨c, r, h1, h2⟩ := cutL_some l h
    unfold trimOf at e
    rw [h1, cutR_cons, h2] at e
    split at e <;> simp at e
end Go.Proofs.YtbngoodjgijmgaaGreatDoor
