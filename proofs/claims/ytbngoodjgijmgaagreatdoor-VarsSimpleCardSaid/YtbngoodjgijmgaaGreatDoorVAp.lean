/-
  What is put behind a variable, and what is told of it then. No program, no world. No condition but sizes.
-/
import Derived.Test.YtbngoodjgijmgaaGreatDoorVRg
import Derived.Test.YtbngoodjgijmgaaGreatDoorVFu
namespace Go.Proofs.YtbngoodjgijmgaaGreatDoor

/-- A reference to one good letter. -/
def GoodN (c : UInt8) : Prop := c ≠ 41 ∧ c ≠ 58 ∧ blankB c = false ∧ c ≠ 36
theorem expand_one (env : EnvT) (c : UInt8) (h : GoodN c) : expandT env [36, 40, c, 41] = (match Rb (valE 19 env [c] 1) fun m t => finR m t with | .error e => ([], e) | .ok y => (y.2, 0)) := by
  obtain ⟨h41, h58, hb, h36⟩ := h
  unfold expandT textE textR
  rw [body_dol, dol_cons, if_neg (by decide), if_pos rfl]
  unfold refAt
  rw [cut_close c h36 h41, if_neg (by simp)]
  dsimp only
  rw [ref_name env 19 0 c h58 hb h36 (by decide)]
  cases valE 19 env [c] (0 + 1) with
  | error e => rfl
  | ok y =>
    show (match Rb (Rb (.ok (y.1, y.2, [])) fun m x => Rb (bodyR (refE 20 env) (valE 20 env) x.2 m) fun k u => .ok (k, x.1 ++ u)) finR with | .error e => ([], e) | .ok y => (y.2, 0)) = _
    rw [Rb_ok, body_nil, Rb_ok, Rb_ok, List.append_nil]
    rfl
theorem val_simple (env : EnvT) (k m : Nat) (x t : BT) (n : BT) (hg : getT env x = some (n, t, true)) (ht : t.length ≤ 4000) : valE k env x m = .ok (m, t) := by
  cases k with
  | zero => rw [val_zero]; unfold valB; rw [hg]; exact fin_ok m ht
  | succ k => rw [val_succ]; unfold valB; rw [hg]; exact fin_ok m ht
theorem val_plain (env : EnvT) (k m : Nat) (x t : BT) (n : BT) (hg : getT env x = some (n, t, false)) (h36 : 36 ∉ t) (ht : t.length ≤ 4000) (hm : m < 2000) : valE (k + 1) env x m = .ok (m + 1, t) := by
  rw [val_succ]; unfold valB; rw [hg]
  show stepR m (textE k env t) = _
  unfold stepR
  rw [if_neg (by omega)]
  unfold textE textR
  rw [body_all t _ h36, Rb_ok, fin_ok _ ht]
theorem told_simple (env : EnvT) (c : UInt8) (h : GoodN c) (n t : BT) (hg : getT env [c] = some (n, t, true)) (ht : t.length ≤ 4000) : expandT env [36, 40, c, 41] = (t, 0) := by
  rw [expand_one env c h, val_simple env 19 1 [c] t n hg ht, Rb_ok, fin_ok _ ht]
theorem told_plain (env : EnvT) (c : UInt8) (h : GoodN c) (n t : BT) (hg : getT env [c] = some (n, t, false)) (h36 : 36 ∉ t) (ht : t.length ≤ 4000) : expandT env [36, 40, c, 41] = (t, 0) := by
  rw [expand_one env c h, val_plain env 18 1 [c] t n hg h36 ht (by decide), Rb_ok, fin_ok _ ht]
/-- A variable whose text ends with a reference to another one. -/
theorem told_more (env : EnvT) (c d : UInt8) (h : GoodN c) (hd : GoodN d) (n n' a t : BT) (hg : getT env [c] = some (n, a ++ 32 :: [36, 40, d, 41], false)) (hg' : getT env [d] = some (n', t, false)) (ha : 36 ∉ a) (h36 : 36 ∉ t) (hl : a.length + t.length ≤ 3000) :
    expandT env [36, 40, c, 41] = (a ++ 32 :: t, 0) := by
  obtain ⟨h41, h58, hb, hd36⟩ := hd
  have hv : valE 19 env [c] 1 = .ok (4, a ++ 32 :: t) := by
    rw [val_succ]; unfold valB; rw [hg]
    show stepR 1 (textE 18 env (a ++ 32 :: [36, 40, d, 41])) = _
    unfold stepR
    rw [if_neg (by decide)]
    unfold textE textR
    rw [show a ++ 32 :: [36, 40, d, 41] = (a ++ [32]) ++ [36, 40, d, 41] by simp, body_plain (a ++ [32]) _ _ (by simp [ha]), body_dol, dol_cons, if_neg (by decide), if_pos rfl]
    unfold refAt
    rw [cut_close d hd36 h41, if_neg (by simp)]
    dsimp only
    rw [ref_name env 17 2 d h58 hb hd36 (by decide), val_plain env 16 3 [d] t n' hg' h36 (by omega) (by decide), Rb_ok, Rb_ok, body_nil, Rb_ok, Rb_ok, Rb_ok]
    rw [fin_ok _ (by simp; omega)]
    simp
  rw [expand_one env c h, hv, Rb_ok, fin_ok _ (by simp; omega)]
end Go.Proofs.YtbngoodjgijmgaaGreatDoor
