/-
  A ring of variables: what it expands to. No program, no world. No condition but sizes.
-/
import Derived.Test.YtbngoodjgijmgaaGreatDoorGH
namespace Go.Proofs.YtbngoodjgijmgaaGreatDoor

/-- All names of a ring lead on to a name of it. -/
def RingE (env : EnvT) (N : UInt8 → Prop) (s : BT) : Prop := ∀ c, N c → c ≠ 41 ∧ c ≠ 58 ∧ blankB c = false ∧ c ≠ 36 ∧ ∃ c', N c' ∧ getT env [c] = some ([c], s ++ [36, 40, c', 41], false)
theorem cut_none (q c : UInt8) (h36 : c ≠ 36) (h : c ≠ q) : cutOf [[q]] [c] = ([c], [], []) := by
  unfold cutOf
  rw [cutW_out (opens_none h36) (by rw [sign_one, if_neg h]), cutW_nil]
  rfl
theorem cut_close (c : UInt8) (h36 : c ≠ 36) (h : c ≠ 41) : cutOf [[41]] [c, 41] = ([c], [41], []) := by
  unfold cutOf
  rw [cutW_out (opens_none h36) (by rw [sign_one, if_neg h]), cutW_sign (x := [41]) (opens_none (by decide)) (by rw [sign_one, if_pos rfl])]
  rfl
theorem ref_name (env : EnvT) (k m : Nat) (c : UInt8) (h58 : c ≠ 58) (hb : blankB c = false) (h36 : c ≠ 36) (hm : m < 2000) : refE (k + 1) env [c] m = valE k env [c] (m + 1) := by
  have hF : funW [c] = [] := by
    unfold funW hasBl
    simp [hb]
  have hM : mostT (funW [c]) = 0 := by rw [hF]; decide
  rw [ref_succ]
  unfold stepR
  rw [if_neg (by omega)]
  unfold refB
  rw [if_pos hM]
  unfold varB
  have hcut : cutOf [[58]] [c] = ([c], [], []) := cut_none 58 c h36 h58
  rw [hcut]
  have h0 : (cutOf [[61]] []).2.1 = [] := by decide
  rw [if_pos h0]
  have hT : textE k env [c] (m + 1) = .ok (m + 1, [c]) := by
    unfold textE textR
    rw [body_all [c] (m + 1) (by simpa using fun e => h36 e.symm), Rb_ok, fin_ok _ (by simp)]
  rw [hT, Rb_ok]
theorem ring_ref {env : EnvT} {N : UInt8 → Prop} {s : BT} (hs : 36 ∉ s) (hR : RingE env N s) : ∀ (k m : Nat) (c : UInt8), N c → m + k ≤ 1000 → refE k env [c] m = .error 15
  | 0, _, _, _, _ => rfl
  | 1, m, c, hc, hm => by
    obtain ⟨_, h58, hb, h36, c', _, hg⟩ := hR c hc
    rw [ref_name env 0 m c h58 hb h36 (by omega), val_zero]
    unfold valB; rw [hg]; rfl
  | k + 2, m, c, hc, hm => by
    obtain ⟨_, h58, hb, h36, c', hc', hg⟩ := hR c hc
    rw [ref_name env (k + 1) m c h58 hb h36 (by omega), val_succ]
    unfold valB; rw [hg]
    show stepR (m + 1) (textE k env (s ++ [36, 40, c', 41])) = _
    unfold stepR
    rw [if_neg (by omega)]
    unfold textE textR
    rw [body_plain s _ _ hs, body_dol, dol_cons, if_neg (by decide), if_pos rfl]
    unfold refAt
    obtain ⟨h41', _, _, h36', _⟩ := hR c' hc'
    rw [cut_close c' h36' h41', if_neg (by simp)]
    dsimp only
    rw [ring_ref hs hR k (m + 1 + 1) c' hc' (by omega)]
    rfl
theorem ring_expand {env : EnvT} {N : UInt8 → Prop} {s : BT} (hs : 36 ∉ s) (hR : RingE env N s) (ha : N 97) : expandT env [36, 40, 97, 41] = ([], 15) := by
  unfold expandT textE textR
  rw [body_dol, dol_cons, if_neg (by decide), if_pos rfl]
  unfold refAt
  rw [cut_close 97 (by decide) (by decide), if_neg (by simp)]
  dsimp only
  rw [ring_ref hs hR 20 0 97 ha (by omega)]
  rfl
end Go.Proofs.YtbngoodjgijmgaaGreatDoor
