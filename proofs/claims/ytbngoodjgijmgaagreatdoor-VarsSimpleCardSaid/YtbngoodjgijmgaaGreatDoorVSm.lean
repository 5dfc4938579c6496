/-
  What was assigned at once, and what was not, whatever is assigned behind. No program, no world. No condition but sizes.
-/
import Derived.Test.YtbngoodjgijmgaaGreatDoorVWs
import Derived.Test.YtbngoodjgijmgaaGreatDoorVNz
namespace Go.Proofs.YtbngoodjgijmgaaGreatDoor

def nOwn : BT := [111, 119, 110]
def nLate : BT := [108, 97, 116, 101]
/-- A reference to a name. -/
structure Named (n : BT) : Prop where
  cut : cutOf [[41]] (n ++ [41]) = (n, [41], [])
  fn : funW n = []
  colon : cutOf [[58]] n = (n, [], [])
  dol : 36 ∉ n
  len : n.length ≤ 4000
theorem own_named : Named nOwn := ⟨by decide, by decide, by decide, by decide, by decide⟩
theorem late_named : Named nLate := ⟨by decide, by decide, by decide, by decide, by decide⟩
theorem ref_named (env : EnvT) (k m : Nat) (n : BT) (h : Named n) (hm : m < 2000) : refE (k + 1) env n m = valE k env n (m + 1) := by
  have hM : mostT (funW n) = 0 := by rw [h.fn]; decide
  rw [ref_succ]
  unfold stepR
  rw [if_neg (by omega)]
  unfold refB
  rw [if_pos hM]
  unfold varB
  have h0 : (cutOf [[61]] (cutOf [[58]] n).2.2).2.1 = [] := by
    rw [h.colon]
    show (cutOf [[61]] []).2.1 = []
    decide
  rw [if_pos h0, text_plain env k (m + 1) n h.dol h.len, Rb_ok]
theorem expand_named (env : EnvT) (n : BT) (h : Named n) : expandT env (36 :: 40 :: (n ++ [41])) = (match Rb (valE 19 env n 1) fun m t => finR m t with | .error e => ([], e) | .ok y => (y.2, 0)) := by
  unfold expandT textE textR
  rw [body_dol, dol_cons, if_neg (by decide), if_pos rfl]
  unfold refAt
  rw [h.cut, if_neg (by simp)]
  dsimp only
  rw [ref_named env 19 0 n h (by decide)]
  cases valE 19 env n (0 + 1) with
  | error e => rfl
  | ok y =>
    show (match Rb (Rb (.ok (y.1, y.2, [])) fun m x => Rb (bodyR (refE 20 env) (valE 20 env) x.2 m) fun k u => .ok (k, x.1 ++ u)) finR with | .error e => ([], e) | .ok y => (y.2, 0)) = _
    rw [Rb_ok, body_nil, Rb_ok, Rb_ok, List.append_nil]
    rfl
theorem told_own (env : EnvT) (t : BT) (hg : getT env nOwn = some (nOwn, t, true)) (ht : t.length ≤ 4000) : expandT env [36, 40, 111, 119, 110, 41] = (t, 0) := by
  have h := expand_named env nOwn own_named
  rw [val_simple env 19 1 nOwn t nOwn hg ht, Rb_ok, fin_ok _ ht] at h
  exact h
/-- What is expanded later is what its text is worth. -/
theorem told_late (env : EnvT) (s : BT) (hg : getT env nLate = some (nLate, s, false)) (h0 : (expandT env [36, 40, 108, 97, 116, 101, 41]).2 = 0) :
    (expandT env s).2 = 0 ∧ (expandT env [36, 40, 108, 97, 116, 101, 41]).1 = (expandT env s).1 := by
  have h := expand_named env nLate late_named
  have hv : valE 19 env nLate 1 = textE 18 env s 2 := by
    rw [val_succ]; unfold valB; rw [hg]
    show stepR 1 (textE 18 env s) = _
    unfold stepR
    rw [if_neg (by decide)]
  have h' : expandT env [36, 40, 108, 97, 116, 101, 41] = _ := h
  rw [hv] at h'
  cases hx : textE 18 env s 2 with
  | error e =>
    rw [hx] at h'
    have he := text_nz 18 env s hx
    rw [h'] at h0
    exact absurd h0 he
  | ok y =>
    obtain ⟨m, t⟩ := y
    rw [hx, Rb_ok, fin_ok _ (short_textE 18 env s 2 m t hx)] at h'
    obtain ⟨h2, hup⟩ := text_up 1 18 env s 2 m t hx
    have h20 : textE 20 env s 0 = .ok (0 + (m - 2), t) := hup 0 (by omega)
    have hs : expandT env s = (t, 0) := by unfold expandT; rw [h20]
    rw [hs, h']
    exact ⟨rfl, rfl⟩

/-! ### an assignment behind -/
theorem get_name {l : EnvT} {n : BT} {y : VarT} (h : getT l n = some y) : y.1 = n := by
  have := List.find?_some h
  exact of_decide_eq_true this
theorem assign_sets {env env' : EnvT} {n op s : BT} (h : assignT env n op s = .ok env') : ∃ z : VarT, env' = setT env z ∧ z.1 = n := by
  unfold assignT at h
  split at h
  · cases h
  split at h
  · split at h
    · cases h; exact ⟨_, rfl, rfl⟩
    · cases h
  split at h
  · cases h; exact ⟨_, rfl, rfl⟩
  split at h
  · split at h
    · cases h
    · rename_i y hy
      split at h
      · cases h
        refine ⟨(y.1, (moreT env y s).1, y.2.2), rfl, ?_⟩
        exact get_name (y := y) hy
      · cases h
  split at h
  · split at h
    · cases h
    · rename_i y hy
      cases h; exact ⟨_, rfl, get_name hy⟩
  · cases h
theorem assign_other {env env' : EnvT} {n op s m : BT} (hs : SrtT env) (h : assignT env n op s = .ok env') (hm : n ≠ m) : getT env' m = getT env m := by
  obtain ⟨z, rfl, hz⟩ := assign_sets h
  rw [get_set m hs, if_neg (by rw [hz]; exact fun e => hm e.symm)]
theorem own_ok (env : EnvT) (s : BT) (h : (expandT env s).2 = 0) : assignT env nOwn opNow s = .ok (setT env (nOwn, (expandT env s).1, true)) := by
  unfold assignT
  rw [if_neg (by decide), if_pos rfl, if_pos h]
theorem late_ok (env : EnvT) (s : BT) : assignT env nLate opLate s = .ok (setT env (nLate, s, false)) := by
  unfold assignT
  rw [if_neg (by decide), if_neg (by decide), if_pos (.inl rfl)]
abbrev simX (env : EnvT) (s : BT) : EnvT := setT env (nOwn, (expandT env s).1, true)
abbrev simY (env : EnvT) (s : BT) : EnvT := setT (simX env s) (nLate, s, false)
theorem simX_own {env : EnvT} (hs : SrtT env) (s : BT) : getT (simX env s) nOwn = some (nOwn, (expandT env s).1, true) := by rw [get_set _ hs, if_pos rfl]
theorem simY_own {env : EnvT} (hs : SrtT env) (s : BT) : getT (simY env s) nOwn = some (nOwn, (expandT env s).1, true) := by
  rw [get_set _ (set_srt hs), if_neg (show ¬ nOwn = nLate by decide), simX_own hs]
theorem simY_late {env : EnvT} (hs : SrtT env) (s : BT) : getT (simY env s) nLate = some (nLate, s, false) := by rw [get_set _ (set_srt hs), if_pos rfl]
/-- All that VarsSimple asks of the variables at the end. -/
theorem simple_end {env envz : EnvT} (hs : SrtT env) (s n op t : BT) (hn1 : n ≠ nOwn) (hn2 : n ≠ nLate) (h : assignT (simY env s) n op t = .ok envz) :
    expandT envz [36, 40, 111, 119, 110, 41] = ((expandT env s).1, 0) ∧
    ((expandT envz [36, 40, 108, 97, 116, 101, 41]).2 = 0 → (expandT envz s).2 = 0 ∧ (expandT envz [36, 40, 108, 97, 116, 101, 41]).1 = (expandT envz s).1) := by
  have hy : SrtT (simY env s) := set_srt (set_srt hs)
  refine ⟨told_own envz _ ?_ (expand_len env s), told_late envz s ?_⟩
  · rw [assign_other hy h hn1]; exact simY_own hs s
  · rw [assign_other hy h hn2]; exact simY_late hs s
end Go.Proofs.YtbngoodjgijmgaaGreatDoor
