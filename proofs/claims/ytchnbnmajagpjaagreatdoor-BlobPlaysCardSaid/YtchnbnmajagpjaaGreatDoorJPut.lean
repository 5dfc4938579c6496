/-
  What Put comes to, of one list and of some.
-/
import Derived.Deep.QuietTactic
import Derived.BigQuiet
import Derived.Test.YtchnbnmajagpjaaGreatDoorJMath
import Derived.Test.YtchnbnmajagpjaaGreatDoorBN
namespace Go.Proofs.YtchnbnmajagpjaaGreatDoor
open Go.RowKit Go.Shelf Go.Maps

open Classical in
noncomputable def putT (xs : List BS) : ByteArray := if Fit xs then txt (lineOf xs) else ⟨#[]⟩
theorem putT_fit {xs : List BS} (h : Fit xs) : putT xs = txt (lineOf xs) := by unfold putT; rw [if_pos h]
theorem put_is {xs : List BS} {e : Ending} (h : PutIs xs e) : e = .returned (.tuple #[.string (putT xs), .int .i64 (lineC xs)]) := by
  rcases h with ⟨h1, h2⟩ | ⟨h1, h2⟩ | ⟨h1, h2, h3⟩
  · rw [h2, putT_fit h1, lineC_fit h1]
  · have hf : ¬ Fit xs := by rw [h1]; intro h; exact absurd h.1 (by decide)
    rw [h2]; unfold putT lineC; rw [if_neg hf, if_neg hf, if_pos h1]
  · rw [h3]; unfold putT lineC; rw [if_neg h2, if_neg h2, if_neg h1]
theorem put_c (v : Value) (xs : List ByteArray) (w : World) (hr : ReadsO w w.heap.size v xs) (hn : xs.length ≤ maxLen) (hx : ∀ x ∈ xs, x.size ≤ 1000000) :
    Calls Tryz.prog 47 #[v] w fun e w' => e = .returned (.tuple #[.string (putT (rawOf xs)), .int .i64 (lineC (rawOf xs))]) ∧ Below w.heap.size w w' :=
  (put_any v xs w hr hn hx).mono fun _ _ h => ⟨put_is h.1, h.2⟩
theorem rput_c (v : Value) (xs : List ByteArray) (w : World) (hr : ReadsO w w.heap.size v xs) (hn : xs.length ≤ maxLen) (hx : ∀ x ∈ xs, x.size ≤ 1000000) :
    Calls Tryz.prog 50 #[v] w fun e w' => e = .returned (.tuple #[.string (putT (rawOf xs)), .int .i64 (lineC (rawOf xs))]) ∧ Below w.heap.size w w' :=
  (rput_any v xs w hr hn hx).mono fun _ _ h => ⟨put_is h.1, h.2⟩
theorem lineC_ne {xs : List BS} (h : ¬ Fit xs) : (lineC xs != 0) = true := by
  unfold lineC
  rw [if_neg h]
  split <;> rfl

noncomputable def togT (ls : LL) : ByteArray := if putC ls = 0 then txt (linesOfAll ls) else ⟨#[]⟩
def rawLL (xss : List (List ByteArray)) : LL := xss.map rawOf
/-- Lists whose lines, one behind the other, are not too long, up to the first that is none. -/
def Mod (ls : LL) : Prop := ∀ k, (∀ x ∈ ls.take k, Fit x) → (linesOfAll (ls.take k)).length ≤ 1048576
theorem mod_few {ls : LL} (h : ls.length ≤ 80) : Mod ls := fun k hk => by
  have h1 := lines_bound hk
  have h2 : (ls.take k).length ≤ ls.length := by rw [List.length_take]; omega
  omega
theorem mod_lines {s : BS} (h : s.length ≤ 1048576) : Mod (listsOf s) := fun k _ => by
  have h1 := lists_len s
  have h2 : (linesOfAll (listsOf s)).length = (linesOfAll ((listsOf s).take k)).length + (linesOfAll ((listsOf s).drop k)).length := by rw [← List.length_append, ← lines_app, List.take_append_drop]
  omega
theorem putC_at : ∀ {ls : LL} {k : Nat} {x : List BS}, (∀ y ∈ ls.take k, Fit y) → ls[k]? = some x → ¬ Fit x → putC ls = lineC x
  | [], k, x, _, h, _ => by simp at h
  | y :: r, 0, x, _, h, hx => by
    have : y = x := by simpa using h
    subst this
    show (if lineC y = 0 then putC r else lineC y) = _
    rw [if_neg (fun e => hx (fit_lineC e))]
  | y :: r, k + 1, x, hk, h, hx => by
    show (if lineC y = 0 then putC r else lineC y) = _
    rw [if_pos (lineC_fit (hk y (by simp)))]
    exact putC_at (k := k) (fun z hz => hk z (by rw [List.take_succ_cons]; exact List.mem_cons_of_mem _ hz)) (by simpa using h) hx
theorem lines_next {ls : LL} {k : Nat} {x : List BS} (h : ls[k]? = some x) : linesOfAll (ls.take (k + 1)) = linesOfAll (ls.take k) ++ lineOf x := by
  rw [List.take_add_one, h, lines_app]
  simp [linesOfAll]
theorem fits_next {ls : LL} {k : Nat} {x : List BS} (h : ls[k]? = some x) (hk : ∀ y ∈ ls.take k, Fit y) (hx : Fit x) : ∀ y ∈ ls.take (k + 1), Fit y := by
  rw [List.take_add_one, h]
  intro y hy
  rcases List.mem_append.1 hy with hy | hy
  · exact hk y hy
  · simp at hy; rw [hy]; exact hx
theorem raw_at {xss : List (List ByteArray)} {k : Nat} (h : k < xss.length) : (rawLL xss)[k]? = some (rawOf xss[k]) := by unfold rawLL; rw [List.getElem?_map, List.getElem?_eq_getElem h]; rfl

end Go.Proofs.YtchnbnmajagpjaaGreatDoor
