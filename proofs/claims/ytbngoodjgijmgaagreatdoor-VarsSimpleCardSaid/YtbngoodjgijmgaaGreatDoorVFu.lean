/-
  Laws of what a text expands to: more steps, a text told as it is, two texts put together. No program, no world. No condition.
-/
import Derived.Test.YtbngoodjgijmgaaGreatDoorGH
namespace Go.Proofs.YtbngoodjgijmgaaGreatDoor

/-! ### more room -/
/-- What is right at n is right with more steps behind it, too, or there are too many. -/
def Fu {α : Type} (f g : Nat → Rs α) : Prop := ∀ n m a, f n = .ok (m, a) → ∀ d, g (n + d) = .ok (m + d, a) ∨ g (n + d) = .error 12
section
variable {α β : Type}
theorem Fu.rb {f g : Nat → Rs α} {p q : Nat → α → Rs β} (h : Fu f g) (hp : ∀ a, Fu (fun n => p n a) (fun n => q n a)) : Fu (fun n => Rb (f n) p) (fun n => Rb (g n) q) := fun n m b e d => by
  obtain ⟨k, a, e1, e2⟩ := Rb_is e
  show Rb (g (n + d)) q = _ ∨ Rb (g (n + d)) q = _
  rcases h n k a e1 d with h1 | h1
  · rw [h1]
    exact hp a k m b e2 d
  · rw [h1]
    exact .inr rfl
theorem Fu.ok (a : α) : Fu (fun n => .ok (n, a)) (fun n => .ok (n, a)) := fun n m b e d => by
  cases e
  exact .inl rfl
theorem Fu.err (e : Int) (g : Nat → Rs α) : Fu (fun _ => .error e) g := fun _ _ _ h => by cases h
theorem Fu.step {f g : Nat → R} (h : Fu f g) : Fu (fun n => stepR n f) (fun n => stepR n g) := fun n m a e d => by
  have e' : (if 2000 ≤ n then Except.error 12 else f (n + 1)) = Except.ok (m, a) := e
  split at e'
  · cases e'
  · show stepR (n + d) g = _ ∨ stepR (n + d) g = _
    unfold stepR
    by_cases h2 : 2000 ≤ n + d
    · exact .inr (if_pos h2)
    · rw [if_neg h2, show n + d + 1 = n + 1 + d by omega]
      exact h _ _ _ e' d
theorem Fu.fin (s : BT) : Fu (fun n => finR n s) (fun n => finR n s) := fun n m a e d => by
  obtain ⟨rfl, rfl, h⟩ := fin_is e
  exact .inl (fin_ok _ h)
end
def Fu2 (f g : BT → Nat → R) : Prop := ∀ s, Fu (f s) (g s)
theorem Fu.texts {f g : BT → Nat → R} (h : Fu2 f g) : ∀ l : List BT, Fu (textsR f l) (textsR g l)
  | [] => Fu.ok []
  | s :: r => (h s).rb fun _ => (Fu.texts h r).rb fun _ => Fu.ok _
theorem Fu.each {f g : BT → Nat → R} (h : Fu2 f g) (s : BT) : Fu (eachR f s) (eachR g s) := (Fu.texts h _).rb fun _ => Fu.fin _
theorem Fu.refAt {f g : BT → Nat → R} (h : Fu2 f g) (q : UInt8) (r : BT) : Fu (Go.Proofs.YtbngoodjgijmgaaGreatDoor.refAt f q r) (Go.Proofs.YtbngoodjgijmgaaGreatDoor.refAt g q r) := by
  intro n m a e
  unfold Go.Proofs.YtbngoodjgijmgaaGreatDoor.refAt at e ⊢
  split at e
  · cases e
  · rename_i h0
    simp only [h0, if_false]
    exact ((h _).rb fun _ => Fu.ok _) n m a e
theorem Fu.dol {rf vf rf' vf' : BT → Nat → R} (hr : Fu2 rf rf') (hv : Fu2 vf vf') : ∀ s : BT, Fu (dolR rf vf s) (dolR rf' vf' s)
  | [] => Fu.err _ _
  | c :: r => by
    by_cases h1 : c = 36
    · have e : ∀ rf vf : BT → Nat → R, dolR rf vf (c :: r) = fun n => .ok (n, [36], r) := fun rf vf => by funext n; rw [dol_cons, if_pos h1]
      rw [e, e]; exact Fu.ok _
    by_cases h2 : c = 40
    · have e : ∀ rf vf : BT → Nat → R, dolR rf vf (c :: r) = Go.Proofs.YtbngoodjgijmgaaGreatDoor.refAt rf 41 r := fun rf vf => by funext n; rw [dol_cons, if_neg h1, if_pos h2]
      rw [e, e]; exact Fu.refAt hr _ _
    by_cases h3 : c = 123
    · have e : ∀ rf vf : BT → Nat → R, dolR rf vf (c :: r) = Go.Proofs.YtbngoodjgijmgaaGreatDoor.refAt rf 125 r := fun rf vf => by funext n; rw [dol_cons, if_neg h1, if_neg h2, if_pos h3]
      rw [e, e]; exact Fu.refAt hr _ _
    · have e : ∀ rf vf : BT → Nat → R, dolR rf vf (c :: r) = fun n => Rb (vf [c] n) fun m t => .ok (m, t, r) := fun rf vf => by funext n; rw [dol_cons, if_neg h1, if_neg h2, if_neg h3]
      rw [e, e]; exact (hv _).rb fun _ => Fu.ok _
theorem Fu.body {rf vf rf' vf' : BT → Nat → R} (hr : Fu2 rf rf') (hv : Fu2 vf vf') : ∀ (f : Nat) (s : BT), Fu (bodyF rf vf f s) (bodyF rf' vf' f s)
  | 0, _ => Fu.err _ _
  | _ + 1, [] => Fu.ok _
  | f + 1, c :: r => by
    by_cases h1 : c = 36
    · have e : ∀ rf vf : BT → Nat → R, bodyF rf vf (f + 1) (c :: r) = fun n => Rb (dolR rf vf r n) fun m x => Rb (bodyF rf vf f x.2 m) fun k u => .ok (k, x.1 ++ u) := fun rf vf => by
        funext n
        conv => lhs; unfold bodyF
        rw [if_pos h1]
      rw [e, e]
      exact (Fu.dol hr hv r).rb fun x => (Fu.body hr hv f x.2).rb fun _ => Fu.ok _
    · have e : ∀ rf vf : BT → Nat → R, bodyF rf vf (f + 1) (c :: r) = fun n => Rb (bodyF rf vf f r n) fun k u => .ok (k, c :: u) := fun rf vf => by
        funext n
        conv => lhs; unfold bodyF
        rw [if_neg h1]
      rw [e, e]
      exact (Fu.body hr hv f r).rb fun _ => Fu.ok _
theorem Fu.text {rf vf rf' vf' : BT → Nat → R} (hr : Fu2 rf rf') (hv : Fu2 vf vf') (s : BT) : Fu (textR rf vf s) (textR rf' vf' s) := (Fu.body hr hv _ s).rb fun _ => Fu.fin _
def Fu3 (f g : EnvT → BT → Nat → R) : Prop := ∀ v, Fu2 (f v) (g v)
theorem Fu.callR (x : BT × Int) : Fu (fun n => Go.Proofs.YtbngoodjgijmgaaGreatDoor.callR n x) (fun n => Go.Proofs.YtbngoodjgijmgaaGreatDoor.callR n x) := by
  unfold Go.Proofs.YtbngoodjgijmgaaGreatDoor.callR
  by_cases h : x.2 = 0
  · simp only [h, if_true]; exact Fu.ok _
  · simp only [h, if_false]; exact Fu.err _ _
theorem Fu.congr {α : Type} {f f' g g' : Nat → Rs α} (ef : ∀ n, f n = f' n) (eg : ∀ n, g n = g' n) (h : Fu f' g') : Fu f g := by
  rw [show f = f' from funext ef, show g = g' from funext eg]; exact h
theorem Fu.choose {E E' : BT → Nat → R} (hE : Fu2 E E') (args : List BT) : Fu (chooseR E args) (chooseR E' args) := by
  refine (hE _).rb fun t => ?_
  by_cases h3 : trimOf t ≠ []
  · exact Fu.congr (fun n => if_pos h3) (fun n => if_pos h3) (hE _)
  by_cases h4 : args.length < 3
  · exact Fu.congr (fun n => (if_neg h3).trans (if_pos h4)) (fun n => (if_neg h3).trans (if_pos h4)) (Fu.ok _)
  · exact Fu.congr (fun n => (if_neg h3).trans (if_neg h4)) (fun n => (if_neg h3).trans (if_neg h4)) (hE _)
theorem Fu.funB {E E' : EnvT → BT → Nat → R} (hE : Fu3 E E') (v : EnvT) (w : BT) (args : List BT) : Fu (Go.Proofs.YtbngoodjgijmgaaGreatDoor.funB E v w args) (Go.Proofs.YtbngoodjgijmgaaGreatDoor.funB E' v w args) := by
  by_cases h2 : w = nIf
  · exact Fu.congr (fun n => if_pos h2) (fun n => if_pos h2) (Fu.choose (hE v) args)
  by_cases h3 : w = nForeach
  · exact Fu.congr (fun n => (if_neg h2).trans (if_pos h3)) (fun n => (if_neg h2).trans (if_pos h3)) ((Fu.texts (hE v) _).rb fun l => Fu.each (fun w => Fu.step (hE _ _)) _)
  by_cases h4 : w = nCallW
  · exact Fu.congr (fun n => (if_neg h2).trans ((if_neg h3).trans (if_pos h4))) (fun n => (if_neg h2).trans ((if_neg h3).trans (if_pos h4))) ((Fu.texts (hE v) _).rb fun l => hE _ _)
  · exact Fu.congr (fun n => (if_neg h2).trans ((if_neg h3).trans (if_neg h4))) (fun n => (if_neg h2).trans ((if_neg h3).trans (if_neg h4))) ((Fu.texts (hE v) _).rb fun l => Fu.callR _)
theorem Fu.varB {E E' vf vf' : EnvT → BT → Nat → R} (hE : Fu3 E E') (hv : Fu3 vf vf') (v : EnvT) (c : BT) : Fu (Go.Proofs.YtbngoodjgijmgaaGreatDoor.varB E vf v c) (Go.Proofs.YtbngoodjgijmgaaGreatDoor.varB E' vf' v c) := by
  by_cases h : (cutOf [[61]] (cutOf [[58]] c).2.2).2.1 = []
  · exact Fu.congr (fun n => if_pos h) (fun n => if_pos h) ((hE v c).rb fun x => hv v x)
  · exact Fu.congr (fun n => if_neg h) (fun n => if_neg h) ((Fu.texts (hE v) _).rb fun l => (hv v _).rb fun s => Fu.each (fun w => Fu.ok _) s)
theorem Fu.ref {E E' vf vf' : EnvT → BT → Nat → R} (hE : Fu3 E E') (hv : Fu3 vf vf') (v : EnvT) (c : BT) : Fu (refB E vf v c) (refB E' vf' v c) := by
  by_cases h0 : mostT (funW c) = 0
  · exact Fu.congr (fun n => if_pos h0) (fun n => if_pos h0) (Fu.varB hE hv v c)
  by_cases h1 : ((argsT ((mostT (funW c)).toNat - 1) (funRest c)).length : Int) < leastT (funW c)
  · exact Fu.congr (fun n => (if_neg h0).trans (if_pos h1)) (fun n => (if_neg h0).trans (if_pos h1)) (Fu.err _ _)
  · exact Fu.congr (fun n => (if_neg h0).trans (if_neg h1)) (fun n => (if_neg h0).trans (if_neg h1)) (Fu.funB hE v _ _)
theorem Fu.val {g g' : BT → Nat → R} (h : Fu2 g g') (v : EnvT) (x : BT) : Fu (valB g v x) (valB g' v x) := by
  unfold valB
  cases getT v x with
  | none => exact Fu.ok _
  | some y =>
    by_cases h1 : y.2.2 = true
    · simp only [h1, if_true]; exact Fu.fin _
    · simp only [h1]; exact h _
theorem lev_fu : ∀ k : Nat, Fu3 (refE k) (refE k) ∧ Fu3 (valE k) (valE k)
  | 0 => ⟨fun v c => Fu.err 15 _, fun v x => Fu.val (g := fun _ _ => .error 15) (g' := fun _ _ => .error 15) (fun s => Fu.err 15 _) v x⟩
  | k + 1 => by
    obtain ⟨h1, h2⟩ := lev_fu k
    have hE : Fu3 (textE k) (textE k) := fun v s => Fu.text (h1 v) (h2 v) s
    exact ⟨fun v c => Fu.step (Fu.ref hE h2 v c), fun v x => Fu.val (g := fun s n' => stepR n' (textE k v s)) (g' := fun s n' => stepR n' (textE k v s)) (fun s => Fu.step (hE v s)) v x⟩
theorem body_fu (k : Nat) (v : EnvT) (s : BT) : Fu (bodyR (refE k v) (valE k v) s) (bodyR (refE k v) (valE k v) s) := Fu.body ((lev_fu k).1 v) ((lev_fu k).2 v) (s.length + 1) s
/-! ### a text told as it is; two texts -/
def dblT : BT → BT
  | [] => []
  | c :: r => if c = 36 then 36 :: 36 :: dblT r else c :: dblT r
theorem body_dbl (rf vf : BT → Nat → R) : ∀ (s : BT) (n : Nat), bodyR rf vf (dblT s) n = .ok (n, s)
  | [], n => body_nil n
  | c :: r, n => by
    unfold dblT
    by_cases h : c = 36
    · rw [if_pos h, body_dol, dol_cons, if_pos rfl, Rb_ok, body_dbl rf vf r n, Rb_ok, h]
      rfl
    · rw [if_neg h, body_byte h, body_dbl rf vf r n, Rb_ok]
theorem expand_dbl (env : EnvT) (s : BT) (hs : s.length ≤ 4000) : expandT env (dblT s) = (s, 0) := by
  unfold expandT textE textR
  rw [body_dbl, Rb_ok, fin_ok _ hs]
theorem expand_plain (env : EnvT) (s : BT) (h : 36 ∉ s) (hs : s.length ≤ 4000) : expandT env s = (s, 0) := by
  unfold expandT textE textR
  rw [body_all s 0 h, Rb_ok, fin_ok _ hs]
end Go.Proofs.YtbngoodjgijmgaaGreatDoor
