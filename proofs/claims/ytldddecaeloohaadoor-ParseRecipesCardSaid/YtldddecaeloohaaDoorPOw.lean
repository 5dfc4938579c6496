/-
  Things of the call's own, each in blocks of its own: what is done to some leaves the others. No program. No condition.
-/
import Derived.Test.YtldddecaeloohaaDoorETog
namespace Go.Proofs.YtldddecaeloohaaDoor
open Go.RowKit
theorem Turned.cells {X : Nat → Prop} {w w' : World} (h : Turned X w w') {b : Nat} {cs : Array Value} {t : TypeId} {fz : Nat × Nat} (hb : w.heap[b]? = some (.cells cs t fz)) (hx : ¬ X b) : w'.heap[b]? = some (.cells cs t fz) :=
  (h.block b (Array.getElem?_eq_some_iff.1 hb).1 hx).trans hb

/-- A thing in blocks of its own: it stays while none of them turns; they lie in memory. -/
structure Own where
  holds : World → (Nat → Prop) → Prop
  kept : ∀ {w w' : World} {X Z : Nat → Prop}, holds w X → Turned Z w w' → (∀ n, X n → ¬ Z n) → holds w' X
  lt : ∀ {w : World} {X : Nat → Prop}, holds w X → ∀ n, X n → n < w.heap.size
/-- The things of l, apart, all in blocks of Z. -/
def Os (w : World) : List Own → (Nat → Prop) → Prop
  | [], _ => True
  | e :: l, Z => ∃ X Y, e.holds w X ∧ Os w l Y ∧ (∀ n, X n → ¬ Y n) ∧ ∀ n, X n ∨ Y n → Z n
theorem Os.wider {w : World} : ∀ {l : List Own} {Z Z' : Nat → Prop}, Os w l Z → (∀ n, Z n → Z' n) → Os w l Z'
  | [], _, _, _, _ => trivial
  | _ :: _, _, _, ⟨X, Y, h1, h2, h3, h4⟩, hd => ⟨X, Y, h1, h2, h3, fun n hn => hd n (h4 n hn)⟩
theorem Os.kept {w w' : World} {Q : Nat → Prop} (hT : Turned Q w w') : ∀ {l : List Own} {Z : Nat → Prop}, Os w l Z → (∀ n, Z n → ¬ Q n) → Os w' l Z
  | [], _, _, _ => trivial
  | e :: _, _, ⟨X, Y, h1, h2, h3, h4⟩, hd => ⟨X, Y, e.kept h1 hT (fun n hn => hd n (h4 n (.inl hn))), Os.kept hT h2 (fun n hn => hd n (h4 n (.inr hn))), h3, h4⟩
theorem Os.tight {w : World} : ∀ {l : List Own} {Z : Nat → Prop}, Os w l Z → Os w l (fun n => Z n ∧ n < w.heap.size)
  | [], _, _ => trivial
  | e :: _, _, ⟨X, Y, h1, h2, h3, h4⟩ => ⟨X, _, h1, Os.tight h2, fun n hx hy => h3 n hx hy.1, fun n hn => by
    rcases hn with hn | hn
    · exact ⟨h4 n (.inl hn), e.lt h1 n hn⟩
    · exact ⟨h4 n (.inr hn.1), hn.2⟩⟩
theorem os_append {w : World} {l' : List Own} : ∀ {l : List Own} {Z : Nat → Prop}, Os w (l ++ l') Z ↔ ∃ X Y, Os w l X ∧ Os w l' Y ∧ (∀ n, X n → ¬ Y n) ∧ ∀ n, X n ∨ Y n → Z n
  | [], Z => ⟨fun h => ⟨fun _ => False, Z, trivial, h, fun _ h => h.elim, fun _ h => h.elim False.elim id⟩, fun ⟨_, _, _, h, _, hz⟩ => h.wider fun n hn => hz n (.inr hn)⟩
  | e :: l, Z => by
    constructor
    · rintro ⟨X, Y, h1, h2, h3, h4⟩
      obtain ⟨X1, Y1, k1, k2, k3, k4⟩ := os_append.1 h2
      refine ⟨fun n => X n ∨ X1 n, Y1, ⟨X, X1, h1, k1, fun n hx hx1 => h3 n hx (k4 n (.inl hx1)), fun n hn => hn⟩, k2, fun n hn hy => ?_, fun n hn => ?_⟩
      · rcases hn with hn | hn
        · exact h3 n hn (k4 n (.inr hy))
        · exact k3 n hn hy
      · rcases hn with (hn | hn) | hn
        · exact h4 n (.inl hn)
        · exact h4 n (.inr (k4 n (.inl hn)))
        · exact h4 n (.inr (k4 n (.inr hn)))
    · rintro ⟨X, Y, ⟨X1, Y1, h1, h2, h3, h4⟩, k2, k3, k4⟩
      refine ⟨X1, fun n => Y1 n ∨ Y n, h1, os_append.2 ⟨Y1, Y, h2, k2, fun n hn hy => k3 n (h4 n (.inr hn)) hy, fun n hn => hn⟩, fun n hn hy => ?_, fun n hn => ?_⟩
      · rcases hy with hy | hy
        · exact h3 n hn hy
        · exact k3 n (h4 n (.inl hn)) hy
      · rcases hn with hn | hn | hn
        · exact k4 n (.inl (h4 n (.inl hn)))
        · exact k4 n (.inl (h4 n (.inr hn)))
        · exact k4 n (.inr hn)
theorem Os.swap {w : World} {e f : Own} {l : List Own} {Z : Nat → Prop} (h : Os w (e :: f :: l) Z) : Os w (f :: e :: l) Z := by
  obtain ⟨X, Y, h1, ⟨X2, Y2, k1, k2, k3, k4⟩, h3, h4⟩ := h
  refine ⟨X2, fun n => X n ∨ Y2 n, k1, ⟨X, Y2, h1, k2, fun n hx hy => h3 n hx (k4 n (.inr hy)), fun n hn => hn⟩, fun n hx hy => ?_, fun n hn => ?_⟩
  · rcases hy with hy | hy
    · exact h3 n hy (k4 n (.inl hx))
    · exact k3 n hx hy
  · rcases hn with hn | hn | hn
    · exact h4 n (.inr (k4 n (.inl hn)))
    · exact h4 n (.inl hn)
    · exact h4 n (.inr (k4 n (.inr hn)))
theorem Os.perm {w : World} {l l' : List Own} (hp : l.Perm l') : ∀ {Z : Nat → Prop}, Os w l Z → Os w l' Z := by
  induction hp with
  | nil => exact fun h => h
  | cons e _ ih => exact fun ⟨X, Y, h1, h2, h3⟩ => ⟨X, Y, h1, ih h2, h3⟩
  | swap e f l => exact fun h => h.swap
  | trans _ _ ih1 ih2 => exact fun h => ih2 (ih1 h)
theorem Os.get {w : World} {e : Own} : ∀ {l : List Own} {Z : Nat → Prop}, Os w l Z → e ∈ l → ∃ X, e.holds w X ∧ ∀ n, X n → Z n
  | f :: l, Z, ⟨X, Y, h1, h2, h3, h4⟩, hm => by
    rcases List.mem_cons.1 hm with rfl | hm
    · exact ⟨X, h1, fun n hn => h4 n (.inl hn)⟩
    · obtain ⟨X1, k1, k2⟩ := Os.get h2 hm
      exact ⟨X1, k1, fun n hn => h4 n (.inr (k2 n hn))⟩

/-- The things of l, apart, all in blocks that came since w0; what lay at w0 is as it was. -/
def In (w0 : World) (l : List Own) (w : World) : Prop := ∃ Z, Os w l Z ∧ (∀ n, Z n → w0.heap.size ≤ n) ∧ Below w0.heap.size w0 w
/-- What turns is of X, or new; what is there then lies in X, or in what is new. -/
def Turn (w : World) (X : Nat → Prop) (l : List Own) (w' : World) : Prop := ∃ X', Os w' l X' ∧ Turned X w w' ∧ ∀ n, X' n → X n ∨ w.heap.size ≤ n
section
variable {w0 w w' : World} {l l' l1 l2 : List Own} {e e' : Own}
theorem In.nil (h : Below w0.heap.size w0 w) : In w0 [] w := ⟨fun _ => False, trivial, fun _ h => h.elim, h⟩
theorem In.back (h : In w0 l w) : Below w0.heap.size w0 w := h.choose_spec.2.2
theorem In.perm (h : In w0 l w) (hp : l.Perm l') : In w0 l' w := by
  obtain ⟨Z, h1, h2⟩ := h
  exact ⟨Z, h1.perm hp, h2⟩
theorem In.swap {f : Own} (h : In w0 (e :: f :: l) w) : In w0 (f :: e :: l) w := h.perm (.swap _ _ _)
/-- The third one to the front. -/
theorem In.third {f g : Own} (h : In w0 (e :: f :: g :: l) w) : In w0 (g :: e :: f :: l) w := h.perm (((List.Perm.swap g f l).cons e).trans (.swap _ _ _))
/-- The first one behind the second and the third. -/
theorem In.second {f g : Own} (h : In w0 (e :: f :: g :: l) w) : In w0 (f :: g :: e :: l) w := h.perm ((List.Perm.swap f e (g :: l)).trans ((List.Perm.swap g e l).cons f))
theorem In.get (h : In w0 l w) (hm : e ∈ l) : ∃ X, e.holds w X ∧ ∀ n, X n → w0.heap.size ≤ n := by
  obtain ⟨Z, h1, h2, _⟩ := h
  obtain ⟨X, k1, k2⟩ := h1.get hm
  exact ⟨X, k1, fun n hn => h2 n (k2 n hn)⟩
theorem In.tail (h : In w0 (e :: l) w) : In w0 l w := by
  obtain ⟨Z, ⟨X, Y, h1, h2, h3, h4⟩, h5, h6⟩ := h
  exact ⟨Y, h2, fun n hn => h5 n (h4 n (.inr hn)), h6⟩
theorem In.drop (h : In w0 (l1 ++ l) w) : In w0 l w := by
  induction l1 with
  | nil => exact h
  | cons e r ih => exact ih h.tail
/-- Some of them turn. -/
theorem In.step (h : In w0 (l1 ++ l) w) (hc : ∀ X, Os w l1 X → Turn w X l2 w') : In w0 (l2 ++ l) w' := by
  obtain ⟨Z, h1, h2, h3⟩ := h
  obtain ⟨X, Y, k1, k2, k3, k4⟩ := os_append.1 h1
  obtain ⟨X', q1, q2, q3⟩ := hc X k1
  have hs := q2.size
  refine ⟨fun n => X' n ∨ (Y n ∧ n < w.heap.size), os_append.2 ⟨X', _, q1, k2.tight.kept q2 (fun n hn hx => k3 n hx hn.1), fun n hx hy => ?_, fun n hn => hn⟩, fun n hn => ?_, h3.trans (q2.below h3.size fun n hn => h2 n (k4 n (.inl hn)))⟩
  · rcases q3 n hx with h | h
    · exact k3 n h hy.1
    · have := hy.2; omega
  · rcases hn with hn | hn
    · rcases q3 n hn with h | h
      · exact h2 n (k4 n (.inl h))
      · have := h3.size; omega
    · exact h2 n (k4 n (.inr hn.1))
theorem In.below (h : In w0 l w) (hb : Below w.heap.size w w') : In w0 l w' :=
  In.step (l1 := []) (l2 := []) h fun _ _ => ⟨fun _ => False, trivial, (turned_below hb).wider fun _ h => h.elim, fun _ h => h.elim⟩
/-- One more, in new blocks. -/
theorem In.add (h : In w0 l w) (hb : Below w.heap.size w w') {X : Nat → Prop} (he : e.holds w' X) (hX : ∀ n, X n → w.heap.size ≤ n) : In w0 (e :: l) w' :=
  In.step (l1 := []) (l2 := [e]) h fun _ _ => ⟨X, ⟨X, fun _ => False, he, trivial, fun _ _ h => h, fun _ h => h.elim id False.elim⟩, (turned_below hb).wider fun _ h => h.elim, fun n hn => .inr (hX n hn)⟩
/-- One of them turns. -/
theorem In.one (h : In w0 (e :: l) w) (hc : ∀ X, e.holds w X → ∃ X', e'.holds w' X' ∧ Turned X w w' ∧ ∀ n, X' n → X n ∨ w.heap.size ≤ n) : In w0 (e' :: l) w' :=
  In.step (l1 := [e]) (l2 := [e']) h fun X ⟨X1, _, k1, _, _, k4⟩ => by
    obtain ⟨X', q1, q2, q3⟩ := hc X1 k1
    exact ⟨X', ⟨X', fun _ => False, q1, trivial, fun _ _ h => h, fun _ h => h.elim id False.elim⟩, q2.wider fun n hn => k4 n (.inl hn), fun n hn => (q3 n hn).imp (fun h => k4 n (.inl h)) id⟩
theorem os_one {X : Nat → Prop} (h : Os w [e] X) : ∃ X1, e.holds w X1 ∧ ∀ n, X1 n → X n := by
  obtain ⟨X1, _, k1, _, _, k4⟩ := h
  exact ⟨X1, k1, fun n hn => k4 n (.inl hn)⟩
theorem os_mk {X : Nat → Prop} (h : e.holds w X) : Os w [e] X := ⟨X, fun _ => False, h, trivial, fun _ _ h => h, fun _ h => h.elim id False.elim⟩
/-- In a call: some of them turn, and what they are then hangs on what it returns. -/
theorem In.call {P : Program} {f : FuncId} {args : Array Value} {Q : Ending → List Own → Prop} (h : In w0 (l1 ++ l) w)
    (hc : ∀ X, Os w l1 X → Calls P f args w fun r w' => ∃ l2, Q r l2 ∧ Turn w X l2 w') : Calls P f args w fun r w' => ∃ l2, Q r l2 ∧ In w0 (l2 ++ l) w' := by
  obtain ⟨Z, h1, h2, h3⟩ := h
  obtain ⟨X, Y, k1, k2, k3, k4⟩ := os_append.1 h1
  refine (hc X k1).mono ?_
  rintro r w' ⟨l2, hQ, hT⟩
  refine ⟨l2, hQ, ?_⟩
  obtain ⟨X', q1, q2, q3⟩ := hT
  have hs := q2.size
  refine ⟨fun n => X' n ∨ (Y n ∧ n < w.heap.size), os_append.2 ⟨X', _, q1, k2.tight.kept q2 (fun n hn hx => k3 n hx hn.1), fun n hx hy => ?_, fun n hn => hn⟩, fun n hn => ?_, h3.trans (q2.below h3.size fun n hn => h2 n (k4 n (.inl hn)))⟩
  · rcases q3 n hx with h | h
    · exact k3 n h hy.1
    · have := hy.2; omega
  · rcases hn with hn | hn
    · rcases q3 n hn with h | h
      · exact h2 n (k4 n (.inl h))
      · have := h3.size; omega
    · exact h2 n (k4 n (.inr hn.1))
/-- In a call that turns the first one. -/
theorem In.call1 {P : Program} {f : FuncId} {args : Array Value} {v : Value} (h : In w0 (e :: l) w)
    (hc : ∀ X, e.holds w X → Calls P f args w fun r w' => r = .returned v ∧ ∃ X', e'.holds w' X' ∧ Turned X w w' ∧ ∀ n, X' n → X n ∨ w.heap.size ≤ n) : Calls P f args w fun r w' => r = .returned v ∧ In w0 (e' :: l) w' := by
  refine (In.call (l1 := [e]) (l := l) (Q := fun r l2 => r = .returned v ∧ l2 = [e']) h fun X hX => ?_).mono fun r w' ⟨l2, ⟨h1, h2⟩, h3⟩ => ⟨h1, by rw [h2] at h3; exact h3⟩
  obtain ⟨X1, k1, k2⟩ := os_one hX
  refine (hc X1 k1).mono ?_
  rintro r w' ⟨hr, X', q1, q2, q3⟩
  exact ⟨[e'], ⟨hr, rfl⟩, X', os_mk q1, q2.wider k2, fun n hn => (q3 n hn).imp (k2 n) id⟩
end

/-! ### cells of the call's own -/
def oCells (b : Nat) (cs : List Value) (t : TypeId) : Own where
  holds w X := w.heap[b]? = some (.cells cs.toArray t (0, 0)) ∧ ∀ n, X n ↔ n = b
  kept h hT hd := ⟨hT.cells h.1 (fun hz => hd b ((h.2 b).2 rfl) hz), h.2⟩
  lt h n hn := by rw [(h.2 n).1 hn]; exact (Array.getElem?_eq_some_iff.1 h.1).1
theorem In.cells {w0 w : World} {l : List Own} {b : Nat} {cs : List Value} {t : TypeId} (h : In w0 l w) (hm : oCells b cs t ∈ l) : w.heap[b]? = some (.cells cs.toArray t (0, 0)) := by
  obtain ⟨X, h1, _⟩ := h.get hm
  exact h1.1
theorem In.alloc {w0 w : World} {l : List Own} (h : In w0 l w) (cs : List Value) (t : TypeId) : In w0 (oCells w.heap.size cs t :: l) (w.alloc (.cells cs.toArray t)) :=
  In.add (X := fun n => n = w.heap.size) h ((Below.refl _ w).alloc (Nat.le_refl _) _) ⟨World.alloc_heap_new w _, fun _ => Iff.rfl⟩ (fun n hn => by omega)

/-! ### some things at once, of which one does not say all -/
def oEx {β : Type} (f : β → List Own) : Own where
  holds w X := (∃ b, Os w (f b) X) ∧ ∀ n, X n → n < w.heap.size
  kept h hT hd := ⟨by obtain ⟨b, hb⟩ := h.1; exact ⟨b, hb.kept hT hd⟩, fun n hn => Nat.lt_of_lt_of_le (h.2 n hn) hT.size⟩
  lt h := h.2
theorem In.opens {β : Type} {f : β → List Own} {w0 w : World} {l : List Own} (h : In w0 (oEx f :: l) w) : ∃ b, In w0 (f b ++ l) w := by
  obtain ⟨Z, ⟨X, Y, ⟨⟨b, h1⟩, _⟩, h2, h3, h4⟩, h5, h6⟩ := h
  exact ⟨b, Z, os_append.2 ⟨X, Y, h1, h2, h3, h4⟩, h5, h6⟩
theorem In.closes {β : Type} {f : β → List Own} {w0 w : World} {l : List Own} (b : β) (h : In w0 (f b ++ l) w) : In w0 (oEx f :: l) w := by
  obtain ⟨Z, h1, h5, h6⟩ := h
  obtain ⟨X, Y, k1, k2, k3, k4⟩ := os_append.1 h1
  exact ⟨Z, ⟨fun n => X n ∧ n < w.heap.size, Y, ⟨⟨b, k1.tight⟩, fun n hn => hn.2⟩, k2, fun n hx hy => k3 n hx.1 hy, fun n hn => k4 n (hn.imp And.left id)⟩, h5, h6⟩

/-! ### a cell set -/
theorem set_cells {w : World} {b i : Nat} {cs : List Value} {t : TypeId} (h : w.heap[b]? = some (.cells cs.toArray t (0, 0))) (v : Value) : (w.setCell ⟨b, i, none⟩ v).heap[b]? = some (.cells (cs.set i v).toArray t (0, 0)) := by
  simp [World.setCell, Array.getElem?_modify, h]
theorem In.set {w0 w : World} {l : List Own} {b : Nat} {cs : List Value} {t : TypeId} (h : In w0 (oCells b cs t :: l) w) (i : Nat) (v : Value) : In w0 (oCells b (cs.set i v) t :: l) (w.setCell ⟨b, i, none⟩ v) :=
  h.one fun X hX => ⟨X, ⟨set_cells hX.1 v, hX.2⟩, Turned.setCell (X := X) w ⟨b, i, none⟩ v ((hX.2 b).2 rfl), fun _ => .inl⟩

end Go.Proofs.YtldddecaeloohaaDoor
