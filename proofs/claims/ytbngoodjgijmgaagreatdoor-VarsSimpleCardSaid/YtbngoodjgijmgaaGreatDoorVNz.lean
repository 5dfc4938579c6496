/-
  What errs has a number that is not zero. No program, no world. No condition.
-/
import Derived.Test.YtbngoodjgijmgaaGreatDoorVFu
namespace Go.Proofs.YtbngoodjgijmgaaGreatDoor

def Nz {α : Type} (f g : Nat → Rs α) : Prop := ∀ n e, f n = .error e → g = g → e ≠ 0
section
variable {α β : Type}
theorem Nz.rb {f g : Nat → Rs α} {p q : Nat → α → Rs β} (h : Nz f g) (hp : ∀ a, Nz (fun n => p n a) (fun n => q n a)) : Nz (fun n => Rb (f n) p) (fun n => Rb (g n) q) := fun n e he _ => by
  cases hf : f n with
  | error c =>
    have he' : Rb (f n) p = .error e := he
    rw [hf] at he'
    cases he'
    exact h n _ hf rfl
  | ok y =>
    have he' : Rb (f n) p = .error e := he
    rw [hf] at he'
    exact hp y.2 y.1 e he' rfl
theorem Nz.ok (a : α) : Nz (fun n => .ok (n, a)) (fun n => .ok (n, a)) := fun _ _ h _ => by cases h
theorem Nz.err (e : Int) (g : Nat → Rs α) (h : e ≠ 0 := by decide) : Nz (fun _ => .error e) g := fun _ _ h2 _ => by cases h2; exact h
theorem Nz.step {f g : Nat → R} (h : Nz f g) : Nz (fun n => stepR n f) (fun n => stepR n g) := fun n e he _ => by
  have e' : (if 2000 ≤ n then Except.error 12 else f (n + 1)) = Except.error e := he
  split at e'
  · cases e'; decide
  · exact h _ _ e' rfl
theorem Nz.fin (s : BT) : Nz (fun n => finR n s) (fun n => finR n s) := fun n e he _ => by
  have he' : finR n s = .error e := he
  unfold finR at he'
  split at he'
  · cases he'; decide
  · cases he'
end
def Nz2 (f g : BT → Nat → R) : Prop := ∀ s, Nz (f s) (g s)
theorem Nz.texts {f g : BT → Nat → R} (h : Nz2 f g) : ∀ l : List BT, Nz (textsR f l) (textsR g l)
  | [] => Nz.ok []
  | s :: r => (h s).rb fun _ => (Nz.texts h r).rb fun _ => Nz.ok _
theorem Nz.each {f g : BT → Nat → R} (h : Nz2 f g) (s : BT) : Nz (eachR f s) (eachR g s) := (Nz.texts h _).rb fun _ => Nz.fin _
theorem Nz.refAt {f : BT → Nat → R} (h : Nz2 f f) (q : UInt8) (r : BT) : Nz (Go.Proofs.YtbngoodjgijmgaaGreatDoor.refAt f q r) (Go.Proofs.YtbngoodjgijmgaaGreatDoor.refAt f q r) := by
  intro n e he _
  unfold Go.Proofs.YtbngoodjgijmgaaGreatDoor.refAt at he
  split at he
  · cases he; decide
  · exact ((h _).rb fun _ => Nz.ok _) n e he rfl
theorem Nz.dol {rf vf : BT → Nat → R} (hr : Nz2 rf rf) (hv : Nz2 vf vf) : ∀ s : BT, Nz (dolR rf vf s) (dolR rf vf s)
  | [] => Nz.err 2 _
  | c :: r => fun n e he _ => by
    rw [dol_cons] at he
    split at he
    · cases he
    · split at he
      · exact Nz.refAt hr _ _ n e he rfl
      · split at he
        · exact Nz.refAt hr _ _ n e he rfl
        · exact ((hv [c]).rb (p := fun m t => .ok (m, t, r)) (q := fun m t => .ok (m, t, r)) fun _ => Nz.ok _) n e he rfl
theorem Nz.body {rf vf : BT → Nat → R} (hr : Nz2 rf rf) (hv : Nz2 vf vf) : ∀ (f : Nat) (s : BT) (n : Nat) (e : Int), s.length < f → bodyF rf vf f s n = .error e → e ≠ 0
  | 0, _, _, _, h, _ => absurd h (Nat.not_lt_zero _)
  | _ + 1, [], _, _, _, he => by cases he
  | f + 1, c :: r, n, e, h, he => by
    simp only [List.length_cons] at h
    unfold bodyF at he
    split at he
    · cases hd : dolR rf vf r n with
      | error c =>
        rw [hd] at he
        cases he
        exact Nz.dol hr hv r n _ hd rfl
      | ok y =>
        obtain ⟨y1, y2⟩ := y
        have hl := dol_rest hd
        rw [hd, Rb_ok] at he
        cases hb : bodyF rf vf f y2.2 y1 with
        | error c =>
          rw [hb] at he
          cases he
          exact Nz.body hr hv f y2.2 y1 _ (by omega) hb
        | ok z => rw [hb] at he; cases he
    · cases hb : bodyF rf vf f r n with
      | error c =>
        rw [hb] at he
        cases he
        exact Nz.body hr hv f r n _ (by omega) hb
      | ok z => rw [hb] at he; cases he
theorem Nz.text {rf vf : BT → Nat → R} (hr : Nz2 rf rf) (hv : Nz2 vf vf) (s : BT) : Nz (textR rf vf s) (textR rf vf s) :=
  Nz.rb (f := bodyR rf vf s) (g := bodyR rf vf s) (fun n e he _ => Nz.body hr hv _ s n e (Nat.lt_succ_self _) he) fun _ => Nz.fin _
def Nz3 (f g : EnvT → BT → Nat → R) : Prop := ∀ v, Nz2 (f v) (g v)
theorem Nz.callR (x : BT × Int) : Nz (fun n => Go.Proofs.YtbngoodjgijmgaaGreatDoor.callR n x) (fun n => Go.Proofs.YtbngoodjgijmgaaGreatDoor.callR n x) := by
  unfold Go.Proofs.YtbngoodjgijmgaaGreatDoor.callR
  by_cases h : x.2 = 0
  · simp only [h, if_true]; exact Nz.ok _
  · simp only [h, if_false]; exact Nz.err _ _ h
theorem Nz.congr {α : Type} {f f' g g' : Nat → Rs α} (ef : ∀ n, f n = f' n) (eg : ∀ n, g n = g' n) (h : Nz f' g') : Nz f g := by
  rw [show f = f' from funext ef, show g = g' from funext eg]; exact h
theorem Nz.choose {E E' : BT → Nat → R} (hE : Nz2 E E') (args : List BT) : Nz (chooseR E args) (chooseR E' args) := by
  refine (hE _).rb fun t => ?_
  by_cases h3 : trimOf t ≠ []
  · exact Nz.congr (fun n => if_pos h3) (fun n => if_pos h3) (hE _)
  by_cases h4 : args.length < 3
  · exact Nz.congr (fun n => (if_neg h3).trans (if_pos h4)) (fun n => (if_neg h3).trans (if_pos h4)) (Nz.ok _)
  · exact Nz.congr (fun n => (if_neg h3).trans (if_neg h4)) (fun n => (if_neg h3).trans (if_neg h4)) (hE _)
theorem Nz.funB {E E' : EnvT → BT → Nat → R} (hE : Nz3 E E') (v : EnvT) (w : BT) (args : List BT) : Nz (Go.Proofs.YtbngoodjgijmgaaGreatDoor.funB E v w args) (Go.Proofs.YtbngoodjgijmgaaGreatDoor.funB E' v w args) := by
  by_cases h2 : w = nIf
  · exact Nz.congr (fun n => if_pos h2) (fun n => if_pos h2) (Nz.choose (hE v) args)
  by_cases h3 : w = nForeach
  · exact Nz.congr (fun n => (if_neg h2).trans (if_pos h3)) (fun n => (if_neg h2).trans (if_pos h3)) ((Nz.texts (hE v) _).rb fun l => Nz.each (fun w => Nz.step (hE _ _)) _)
  by_cases h4 : w = nCallW
  · exact Nz.congr (fun n => (if_neg h2).trans ((if_neg h3).trans (if_pos h4))) (fun n => (if_neg h2).trans ((if_neg h3).trans (if_pos h4))) ((Nz.texts (hE v) _).rb fun l => hE _ _)
  · exact Nz.congr (fun n => (if_neg h2).trans ((if_neg h3).trans (if_neg h4))) (fun n => (if_neg h2).trans ((if_neg h3).trans (if_neg h4))) ((Nz.texts (hE v) _).rb fun l => Nz.callR _)
theorem Nz.varB {E E' vf vf' : EnvT → BT → Nat → R} (hE : Nz3 E E') (hv : Nz3 vf vf') (v : EnvT) (c : BT) : Nz (Go.Proofs.YtbngoodjgijmgaaGreatDoor.varB E vf v c) (Go.Proofs.YtbngoodjgijmgaaGreatDoor.varB E' vf' v c) := by
  by_cases h : (cutOf [[61]] (cutOf [[58]] c).2.2).2.1 = []
  · exact Nz.congr (fun n => if_pos h) (fun n => if_pos h) ((hE v c).rb fun x => hv v x)
  · exact Nz.congr (fun n => if_neg h) (fun n => if_neg h) ((Nz.texts (hE v) _).rb fun l => (hv v _).rb fun s => Nz.each (fun w => Nz.ok _) s)
theorem Nz.ref {E E' vf vf' : EnvT → BT → Nat → R} (hE : Nz3 E E') (hv : Nz3 vf vf') (v : EnvT) (c : BT) : Nz (refB E vf v c) (refB E' vf' v c) := by
  by_cases h0 : mostT (funW c) = 0
  · exact Nz.congr (fun n => if_pos h0) (fun n => if_pos h0) (Nz.varB hE hv v c)
  by_cases h1 : ((argsT ((mostT (funW c)).toNat - 1) (funRest c)).length : Int) < leastT (funW c)
  · exact Nz.congr (fun n => (if_neg h0).trans (if_pos h1)) (fun n => (if_neg h0).trans (if_pos h1)) (Nz.err _ _)
  · exact Nz.congr (fun n => (if_neg h0).trans (if_neg h1)) (fun n => (if_neg h0).trans (if_neg h1)) (Nz.funB hE v _ _)
theorem Nz.val {g g' : BT → Nat → R} (h : Nz2 g g') (v : EnvT) (x : BT) : Nz (valB g v x) (valB g' v x) := by
  unfold valB
  cases getT v x with
  | none => exact Nz.ok _
  | some y =>
    by_cases h1 : y.2.2 = true
    · simp only [h1, if_true]; exact Nz.fin _
    · simp only [h1]; exact h _
theorem lev_nz : ∀ k : Nat, Nz3 (refE k) (refE k) ∧ Nz3 (valE k) (valE k)
  | 0 => ⟨fun v c => Nz.err 15 _, fun v x => Nz.val (g := fun _ _ => .error 15) (g' := fun _ _ => .error 15) (fun s => Nz.err 15 _) v x⟩
  | k + 1 => by
    obtain ⟨h1, h2⟩ := lev_nz k
    have hE : Nz3 (textE k) (textE k) := fun v s => Nz.text (h1 v) (h2 v) s
    exact ⟨fun v c => Nz.step (Nz.ref hE h2 v c), fun v x => Nz.val (g := fun s n' => stepR n' (textE k v s)) (g' := fun s n' => stepR n' (textE k v s)) (fun s => Nz.step (hE v s)) v x⟩
theorem text_nz (k : Nat) (v : EnvT) (s : BT) {n : Nat} {e : Int} (h : textE k v s n = .error e) : e ≠ 0 := Nz.text ((lev_nz k).1 v) ((lev_nz k).2 v) s n e h rfl
theorem expand_is {env : EnvT} {s : BT} (h : (expandT env s).2 = 0) : ∃ m, bodyR (refE 20 env) (valE 20 env) s 0 = .ok (m, (expandT env s).1) ∧ (expandT env s).1.length ≤ 4000 := by
  unfold expandT at h ⊢
  cases e : textE 20 env s 0 with
  | error c =>
    rw [e] at h
    exact absurd h (text_nz 20 env s e)
  | ok y =>
    obtain ⟨m, a, h1, h2⟩ := Rb_is (show Rb (bodyR (refE 20 env) (valE 20 env) s 0) finR = .ok (y.1, y.2) from e)
    obtain ⟨rfl, rfl, h3⟩ := fin_is h2
    exact ⟨_, h1, h3⟩
/-- Two texts put together (V7). -/
theorem expand_two (env : EnvT) (s t : BT) (hs : (expandT env s).2 = 0) (ht : (expandT env t).2 = 0) :
    expandT env (s ++ t) = ((expandT env s).1 ++ (expandT env t).1, 0) ∨ (expandT env (s ++ t) = ([], 3) ∧ 4000 < (expandT env s).1.length + (expandT env t).1.length) ∨ expandT env (s ++ t) = ([], 12) := by
  obtain ⟨m, h1, _⟩ := expand_is hs
  obtain ⟨k, h2, _⟩ := expand_is ht
  have h3 := body_two (rf := refE 20 env) (vf := valE 20 env) t (s.length + 1) s 0 m _ (Nat.lt_succ_self _) h1
  have h4 := body_fu 20 env t 0 k _ h2 m
  rw [Nat.zero_add] at h4
  generalize (expandT env s).1 = a at *
  generalize (expandT env t).1 = b at *
  unfold expandT textE textR
  rw [h3]
  rcases h4 with h4 | h4
  · rw [h4, Rb_ok, Rb_ok]
    by_cases hl : 4000 < (a ++ b).length
    · rw [fin_err _ hl]
      exact .inr (.inl ⟨rfl, by rw [List.length_append] at hl; exact hl⟩)
    · rw [fin_ok _ (by omega)]
      exact .inl rfl
  · rw [h4]
    exact .inr (.inr rfl)
end Go.Proofs.YtbngoodjgijmgaaGreatDoor
