/-
  Some trees, each in blocks of its own; what is done to one leaves the others. No condition.
-/
import Derived.Test.YtginlknlkbhgaaaFLaw4
namespace Go.Proofs.Ytginlknlkbhgaaa
open Go.RowKit Go.Shelf Go.Maps

/-- A tree: the document's (true), or the program's; its block; what it holds. -/
abbrev Ent := Bool × (Nat × St)
def HoldsE (room : Int) (w : World) (X : Nat → Prop) (e : Ent) : Prop := if e.1 = true then RefS w X e.2.1 room e.2.2 else TreeS w X e.2.1 room e.2.2
theorem HoldsE.kept {room : Int} {w w' : World} {X Z : Nat → Prop} {e : Ent} (h : HoldsE room w X e) (hT : Turned Z w w') (hd : ∀ n, X n → ¬ Z n) : HoldsE room w' X e := by
  unfold HoldsE at *
  split
  · rename_i he; rw [if_pos he] at h; exact h.kept hT hd
  · rename_i he; rw [if_neg he] at h; exact TreeR.kept h hT hd
theorem HoldsE.lt {room : Int} {w : World} {X : Nat → Prop} {e : Ent} (h : HoldsE room w X e) : ∀ n, X n → n < w.heap.size := by
  unfold HoldsE at h
  split at h
  · exact h.lt
  · exact TreeR.lt h
/-- The trees of l, each in blocks of its own, all of Z. -/
def Ts (room : Int) (w : World) : List Ent → (Nat → Prop) → Prop
  | [], _ => True
  | e :: l, Z => ∃ X Y, HoldsE room w X e ∧ Ts room w l Y ∧ Disj X Y ∧ ∀ n, X n ∨ Y n → Z n
theorem Ts.kept {room : Int} {w w' : World} {Q : Nat → Prop} (hT : Turned Q w w') : ∀ {l : List Ent} {Z : Nat → Prop}, Ts room w l Z → (∀ n, Z n → ¬ Q n) → Ts room w' l Z
  | [], _, _, _ => trivial
  | _ :: _, _, ⟨X, Y, h1, h2, h3, h4⟩, hd => ⟨X, Y, h1.kept hT (fun n hn => hd n (h4 n (.inl hn))), Ts.kept hT h2 (fun n hn => hd n (h4 n (.inr hn))), h3, h4⟩
theorem Ts.wider {room : Int} {w : World} : ∀ {l : List Ent} {Z Z' : Nat → Prop}, Ts room w l Z → (∀ n, Z n → Z' n) → Ts room w l Z'
  | [], _, _, _, _ => trivial
  | _ :: _, _, _, ⟨X, Y, h1, h2, h3, h4⟩, hd => ⟨X, Y, h1, h2, h3, fun n hn => hd n (h4 n hn)⟩
theorem Ts.tight {room : Int} {w : World} : ∀ {l : List Ent} {Z : Nat → Prop}, Ts room w l Z → Ts room w l (fun n => Z n ∧ n < w.heap.size)
  | [], _, _ => trivial
  | _ :: _, _, ⟨X, Y, h1, h2, h3, h4⟩ => ⟨X, _, h1, Ts.tight h2, fun n hx hy => h3 n hx hy.1, fun n hn => by
    rcases hn with hn | hn
    · exact ⟨h4 n (.inl hn), h1.lt n hn⟩
    · exact ⟨h4 n (.inr hn.1), hn.2⟩⟩

/-- The trees of l lie in w, in blocks of Z; since w1 nothing outside Z has turned. -/
def At (w1 : World) (Z : Nat → Prop) (room : Int) (l : List Ent) (w : World) : Prop := Turned Z w1 w ∧ (∀ n, w.heap.size ≤ n → Z n) ∧ Ts room w l Z
section
variable {w1 w w' : World} {Z : Nat → Prop} {room : Int} {l : List Ent} {b c : Nat} {S S' T T' : St}
theorem At.below (h : At w1 Z room l w) (hb : Below w.heap.size w w') : At w1 Z room l w' :=
  ⟨h.1.trans ((turned_below hb).wider fun _ h => h.elim), fun n hn => h.2.1 n (by have := hb.size; omega), h.2.2.kept (turned_below hb) (fun _ _ => id)⟩
/-- What came since w stays from now on. -/
theorem At.since (h : At w1 Z room l w) (hb : Below w.heap.size w w') : At w' (fun n => Z n ∧ ¬ (w.heap.size ≤ n ∧ n < w'.heap.size)) room l w' :=
  ⟨(turned_below (Below.refl _ w')).wider fun _ h => h.elim, fun n hn => ⟨h.2.1 n (by have := hb.size; omega), by omega⟩, (h.2.2.tight.kept (turned_below hb) (fun _ _ => id)).wider fun n hn => ⟨hn.1, by omega⟩⟩
theorem At.cells (h : At w1 Z room l w) {b : Nat} {cs : Array Value} {t : TypeId} {fz : Nat × Nat} (hx : w1.heap[b]? = some (.cells cs t fz)) (hb : ¬ Z b) : w.heap[b]? = some (.cells cs t fz) := h.1.cells hx hb
theorem At.to (h : At w1 Z room l w) {w0 : World} (hb : Below w0.heap.size w0 w1) (hZ : ∀ n, Z n → w0.heap.size ≤ n) : Below w0.heap.size w0 w := hb.trans (h.1.below hb.size hZ)
theorem At.tail {e : Ent} (h : At w1 Z room (e :: l) w) : At w1 Z room l w := by
  obtain ⟨h0, h9, X, Y, h1, h2, h3, h4⟩ := h
  exact ⟨h0, h9, h2.wider (fun n hn => h4 n (.inr hn))⟩
theorem At.swap {e f : Ent} (h : At w1 Z room (e :: f :: l) w) : At w1 Z room (f :: e :: l) w := by
  obtain ⟨h0, h9, X, Y, h1, ⟨X2, Y2, k1, k2, k3, k4⟩, h3, h4⟩ := h
  refine ⟨h0, h9, X2, fun n => X n ∨ Y2 n, k1, ⟨X, Y2, h1, k2, fun n hx hy => h3 n hx (k4 n (.inr hy)), fun n hn => hn⟩, fun n hx hy => ?_, fun n hn => ?_⟩
  · rcases hy with hy | hy
    · exact h3 n hy (k4 n (.inl hx))
    · exact k3 n hx hy
  · rcases hn with hn | hn | hn
    · exact h4 n (.inr (k4 n (.inl hn)))
    · exact h4 n (.inl hn)
    · exact h4 n (.inr (k4 n (.inr hn)))
theorem Ts.swap {e f : Ent} {Z : Nat → Prop} (h : Ts room w (e :: f :: l) Z) : Ts room w (f :: e :: l) Z := by
  obtain ⟨X, Y, h1, ⟨X2, Y2, k1, k2, k3, k4⟩, h3, h4⟩ := h
  refine ⟨X2, fun n => X n ∨ Y2 n, k1, ⟨X, Y2, h1, k2, fun n hx hy => h3 n hx (k4 n (.inr hy)), fun n hn => hn⟩, fun n hx hy => ?_, fun n hn => ?_⟩
  · rcases hy with hy | hy
    · exact h3 n hy (k4 n (.inl hx))
    · exact k3 n hx hy
  · rcases hn with hn | hn | hn
    · exact h4 n (.inr (k4 n (.inl hn)))
    · exact h4 n (.inl hn)
    · exact h4 n (.inr (k4 n (.inr hn)))
/-- The third one to the front. -/
theorem At.third {e f g : Ent} (h : At w1 Z room (e :: f :: g :: l) w) : At w1 Z room (g :: e :: f :: l) w := by
  obtain ⟨h0, h9, X, Y, h1, h2, h3, h4⟩ := h
  exact At.swap ⟨h0, h9, X, Y, h1, h2.swap, h3, h4⟩
theorem At.look (h : At w1 Z room ((false, b, S) :: l) w) : ∃ X, TreeS w X b room S := by
  obtain ⟨h0, h9, X, Y, h1, _⟩ := h
  exact ⟨X, h1⟩
theorem At.lookR (h : At w1 Z room ((true, b, S) :: l) w) : ∃ X, RefS w X b room S := by
  obtain ⟨h0, h9, X, Y, h1, _⟩ := h
  exact ⟨X, h1⟩
/-- The first one turns. -/
theorem At.head {e e' : Ent} (h : At w1 Z room (e :: l) w) {f : FuncId} {args : Array Value} {Q : Ending → Prop}
    (hc : ∀ X, HoldsE room w X e → Calls Try.prog f args w fun r w' => Q r ∧ ∃ X', HoldsE room w' X' e' ∧ Turned X w w' ∧ ∀ n, X' n → X n ∨ w.heap.size ≤ n) :
    Calls Try.prog f args w fun r w' => Q r ∧ At w1 Z room (e' :: l) w' := by
  obtain ⟨h0, h9, X, Y, h1, h2, h3, h4⟩ := h
  refine (hc X h1).mono ?_
  rintro r w' ⟨hQ, X', k1, k2, k3⟩
  have hs := k2.size
  have h2' := h2.tight.kept k2 (fun n hn hx => h3 n hx hn.1)
  refine ⟨hQ, h0.trans (k2.wider fun n hn => h4 n (.inl hn)), fun n hn => h9 n (by omega), X', _, k1, h2', fun n hx hy => ?_, fun n hn => ?_⟩
  · rcases k3 n hx with h | h
    · exact h3 n h hy.1
    · have := hy.2; omega
  · rcases hn with hn | hn
    · rcases k3 n hn with h | h
      · exact h4 n (.inl h)
      · exact h9 n h
    · exact h4 n (.inr hn.1)
theorem At.tree (h : At w1 Z room ((false, b, S) :: l) w) {f : FuncId} {args : Array Value} {v : Value} (hc : ∀ X, TreeS w X b room S → Calls Try.prog f args w fun r w' => r = .returned v ∧ StepS w X b room S' w') :
    Calls Try.prog f args w fun r w' => r = .returned v ∧ At w1 Z room ((false, b, S') :: l) w' :=
  h.head (Q := fun r => r = .returned v) fun X hX => (hc X hX).mono fun _ _ ⟨k1, X', k2, k3, k4⟩ => ⟨k1, X', k2, k3, k4⟩
/-- The first two turn. -/
theorem At.two (h : At w1 Z room ((false, b, S) :: (true, c, T) :: l) w) {f : FuncId} {args : Array Value} {Q : Ending → Prop} (hc : ∀ X Y, TreeS w X b room S → RefS w Y c room T → Disj X Y → Calls Try.prog f args w fun r w' => Q r ∧ TwoS w X Y b c room S' T' w') :
    Calls Try.prog f args w fun r w' => Q r ∧ At w1 Z room ((false, b, S') :: (true, c, T') :: l) w' := by
  obtain ⟨h0, h9, X, Y, h1, ⟨X2, Y2, q1, q2, q3, q4⟩, h3, h4⟩ := h
  refine (hc X X2 h1 q1 (fun n hx hy => h3 n hx (q4 n (.inl hy)))).mono ?_
  rintro r w' ⟨hQ, X', Y', k1, k2, k3, k4, k5, k6⟩
  have hs := k4.size
  have q2' := q2.tight.kept k4 (fun n hn hx => hx.elim (fun hx => h3 n hx (q4 n (.inr hn.1))) (fun hx => q3 n hx hn.1))
  refine ⟨hQ, h0.trans (k4.wider fun n hn => hn.elim (fun hn => h4 n (.inl hn)) (fun hn => h4 n (.inr (q4 n (.inl hn))))), fun n hn => h9 n (by omega), X', fun n => Y' n ∨ (Y2 n ∧ n < w.heap.size), k1, ⟨Y', _, k2, q2', fun n hx hy => ?_, fun n hn => hn⟩, fun n hx hy => ?_, fun n hn => ?_⟩
  · rcases k6 n hx with h | h
    · exact q3 n h hy.1
    · have := hy.2; omega
  · rcases hy with hy | hy
    · exact k3 n hx hy
    · rcases k5 n hx with h | h
      · exact h3 n h (q4 n (.inr hy.1))
      · have := hy.2; omega
  · rcases hn with hn | hn | hn
    · rcases k5 n hn with h | h
      · exact h4 n (.inl h)
      · exact h9 n h
    · rcases k6 n hn with h | h
      · exact h4 n (.inr (q4 n (.inl h)))
      · exact h9 n h
    · exact h4 n (.inr (q4 n (.inr hn.1)))
/-- A copy, in blocks of its own. -/
theorem At.clone {n : Nat} (h : At w1 Z room ((false, b, S) :: l) w) (hg : Good room n S) (hn : n < 268435456) :
    Calls Try.prog 14 #[.pointer (some ⟨b, 0, none⟩)] w fun r w' => ∃ c, r = .returned (.pointer (some ⟨c, 0, none⟩)) ∧ At w1 Z room ((false, c, S) :: (false, b, S) :: l) w' := by
  obtain ⟨X, hX⟩ := h.look
  refine (clone_tree b X room S w hX (hg.ok (by omega)) (by have := hg.run.head.len; omega)).mono ?_
  rintro r w' ⟨c, rfl, hc, hb⟩
  have h' := h.below hb
  obtain ⟨h0, h9, hZ⟩ := h
  refine ⟨c, rfl, h'.1, h'.2.1, _, fun n => Z n ∧ n < w.heap.size, hc, ?_, fun n hx hy => by have := hy.2; omega, fun n hn => ?_⟩
  · exact hZ.tight.kept (turned_below hb) (fun _ _ => id)
  · rcases hn with hn | hn
    · exact h9 n hn.1
    · exact hn.1
theorem At.begun {w0 : World} (h : Begun w0 b c room w) : At w (fun n => w0.heap.size ≤ n) room [(false, b, (0, [], [], [])), (true, c, (0, [], [], []))] w := by
  obtain ⟨X, Y, h1, h2, h3, h4, h5, h6⟩ := h
  exact ⟨(turned_below (Below.refl _ w)).wider fun _ h => h.elim, fun n hn => Nat.le_trans h6.size hn, X, Y, h1, ⟨Y, fun _ => False, h2, trivial, fun _ _ h => h, fun n hn => hn.elim id False.elim⟩, h3, fun n hn => hn.elim (h4 n) (h5 n)⟩
end

/-! ### what is done to a program's tree that stands first -/
section
variable {w1 : World} {Z : Nat → Prop} {room : Int} {w : World} {l : List Ent} {b n : Nat} {S : St}
theorem At.write (h : At w1 Z room ((false, b, S) :: l) w) (hg : Good room n S) (hn : n < 268435456) (p s : ByteArray) (hp : p.size ≤ 1048576) (hs : s.size ≤ 1048576) :
    Calls Try.prog 15 #[.pointer (some ⟨b, 0, none⟩), .string p, .string s] w fun r w' => r = .returned (.int .i64 (opW room S p.data.toList s.data.toList).1) ∧ At w1 Z room ((false, b, (opW room S p.data.toList s.data.toList).2) :: l) w' :=
  h.tree fun X hX => write_tree b X p s room S w hX (hg.ok (by omega)) hp hs
theorem At.append (h : At w1 Z room ((false, b, S) :: l) w) (hg : Good room n S) (hn : n < 268435456) (p s : ByteArray) (hp : p.size ≤ 1048576) (hs : s.size ≤ 1048576) :
    Calls Try.prog 29 #[.pointer (some ⟨b, 0, none⟩), .string p, .string s] w fun r w' => r = .returned (.int .i64 (opA room S p.data.toList s.data.toList).1) ∧ At w1 Z room ((false, b, (opA room S p.data.toList s.data.toList).2) :: l) w' :=
  h.tree fun X hX => append_tree b X p s room S w hX (hg.ok (by omega)) hp hs (hg.tx _)
theorem At.remove (h : At w1 Z room ((false, b, S) :: l) w) (hg : Good room n S) (hn : n < 268435456) (p : ByteArray) (hp : p.size ≤ 1048576) :
    Calls Try.prog 21 #[.pointer (some ⟨b, 0, none⟩), .string p] w fun r w' => r = .returned (.int .i64 (opR S p.data.toList).1) ∧ At w1 Z room ((false, b, (opR S p.data.toList).2) :: l) w' :=
  h.tree fun X hX => remove_tree b X p room S w hX (hg.ok (by omega)) hp
theorem At.rename (h : At w1 Z room ((false, b, S) :: l) w) (hg : Good room n S) (hn : n < 268435456) (p q : ByteArray) (hp : p.size ≤ 1048576) (hq : q.size ≤ 1048576) :
    Calls Try.prog 23 #[.pointer (some ⟨b, 0, none⟩), .string p, .string q] w fun r w' => r = .returned (.int .i64 (opN S p.data.toList q.data.toList).1) ∧ At w1 Z room ((false, b, (opN S p.data.toList q.data.toList).2) :: l) w' :=
  h.tree fun X hX => rename_tree b X p q room S w hX (hg.ok (by omega)) hp hq
theorem At.sync (h : At w1 Z room ((false, b, S) :: l) w) (hg : Good room n S) :
    Calls Try.prog 22 #[.pointer (some ⟨b, 0, none⟩)] w fun r w' => r = .returned (.tuple #[]) ∧ At w1 Z room ((false, b, opS S) :: l) w' :=
  h.tree fun X hX => sync_tree b X room S w hX hg.files.len
theorem At.crash (h : At w1 Z room ((false, b, S) :: l) w) (hg : Good room n S) (many part : Int) (hp : part < 9223372036854775808) :
    Calls Try.prog 16 #[.pointer (some ⟨b, 0, none⟩), .int .i64 many, .int .i64 part] w fun r w' => r = .returned (.tuple #[]) ∧ At w1 Z room ((false, b, opC S many part) :: l) w' :=
  h.tree fun X hX => crash_tree b X room S many part w hX hg.run.head.len hg.run.goes hp
theorem At.files (h : At w1 Z room ((false, b, S) :: l) w) (hg : Good room n S) (hn : n < 268435456) :
    Calls Try.prog 26 #[.pointer (some ⟨b, 0, none⟩)] w fun r w' => ∃ o c, r = .returned (.slice o (filesOf S.now).length c) ∧ RowA w' (fun n => w.heap.size ≤ n) (.slice o (filesOf S.now).length c) (filesOf S.now) ∧ Below w.heap.size w w' := by
  obtain ⟨X, hX⟩ := h.look
  refine (all_tree b X room S w hX (hg.ok (by omega)) (fun y hy => by have := hg.files.short y hy; omega)).mono ?_
  rintro r w' ⟨v, rfl, hv, hb⟩
  obtain ⟨o, c, rfl, _⟩ := hv.shape (fun _ => rfl)
  exact ⟨o, c, rfl, hv, hb⟩
end

/-! ### how each statement begins -/
abbrev pairW (w1 : World) (bt bm : Nat) : World := w1.alloc (.cells #[.pointer (some ⟨bt, 0, none⟩), .pointer (some ⟨bm, 0, none⟩)] 28)
def ZB (w w1 : World) (n : Nat) : Prop := w.heap.size ≤ n ∧ n ≠ w1.heap.size
/-- Two trees in the box of the call's own. -/
abbrev Box (w w1 : World) (bt bm : Nat) (room : Int) (l : List Ent) (W : World) : Prop := At (pairW w1 bt bm) (ZB w w1) room l W ∧ Below w.heap.size w (pairW w1 bt bm)
theorem began {w w1 : World} {bt bm : Nat} {room : Int} (h : Begun w bt bm room w1) : Box w w1 bt bm room [(false, bt, (0, [], [], [])), (true, bm, (0, [], [], []))] (pairW w1 bt bm) := by
  have hb : Below w1.heap.size w1 (pairW w1 bt bm) := (Below.refl _ w1).alloc (Nat.le_refl _) _
  obtain ⟨X, Y, h1, h2, h3, h4, h5, h6⟩ := id h
  have hs : (pairW w1 bt bm).heap.size = w1.heap.size + 1 := by simp
  refine ⟨?_, h6.trans (hb.mono h6.size)⟩
  obtain ⟨k1, k2, k3⟩ := (At.begun h).since hb
  have hw : ∀ n, (fun n => w.heap.size ≤ n ∧ ¬ (w1.heap.size ≤ n ∧ n < (pairW w1 bt bm).heap.size)) n → ZB w w1 n := fun n hn => ⟨hn.1, fun he => hn.2 (by omega)⟩
  exact ⟨k1.wider hw, fun n hn => hw n (k2 n hn), k3.wider hw⟩
theorem boxAt {w w1 W : World} {bt bm : Nat} {room : Int} {l : List Ent} (h : Box w w1 bt bm room l W) : W.cell? ⟨w1.heap.size, 0, none⟩ = some (.pointer (some ⟨bt, 0, none⟩)) ∧ W.cell? ⟨w1.heap.size, 1, none⟩ = some (.pointer (some ⟨bm, 0, none⟩)) := by
  have hx := h.1.cells (World.alloc_heap_new w1 _) (fun hn => hn.2 rfl)
  exact ⟨by rw [Lib.cell_of_heap hx]; rfl, by rw [Lib.cell_of_heap hx]; rfl⟩
theorem boxBack {w w1 W : World} {bt bm : Nat} {room : Int} {l : List Ent} (h : Box w w1 bt bm room l W) : Below w.heap.size w W := h.1.to h.2 (fun _ hn => hn.1)
theorem Box.below {w w1 W W' : World} {bt bm : Nat} {room : Int} {l : List Ent} (h : Box w w1 bt bm room l W) (hb : Below W.heap.size W W') : Box w w1 bt bm room l W' := ⟨h.1.below hb, h.2⟩

theorem rowA_cells {w w' : World} {P : Nat → Prop} {o : Option Addr} {n c : Nat} {al : List AF} (h : RowA w P (.slice o n c) al) (hb : Below w.heap.size w w') :
    n ≤ c ∧ ∀ k p t, al[k]? = some (p, t) → ∃ g, o = some ⟨g, 0, none⟩ ∧ w'.cell? ⟨g, k * 2, none⟩ = some (.string (txt p)) ∧ w'.cell? ⟨g, k * 2 + 1, none⟩ = some (.string (txt t)) := by
  obtain ⟨o', c', hv, q1, _, _, q4⟩ := (RowR.below h hb (Nat.le_refl _)).shape (fun _ => rfl)
  cases hv
  refine ⟨q1, fun k p t hk => ?_⟩
  obtain ⟨g, hg, hc⟩ := q4 k _ hk
  exact ⟨g, hg, hc 0 (by omega), hc 1 (by omega)⟩

end Go.Proofs.Ytginlknlkbhgaaa
