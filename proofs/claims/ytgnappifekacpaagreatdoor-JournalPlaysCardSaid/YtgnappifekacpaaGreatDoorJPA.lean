/-
  Both trees, the box, a local copy of an act, and what was told: kept; each call of layer 6 there.
-/
import Derived.Test.YtgnappifekacpaaGreatDoorJDoc
import Derived.Test.YtgnappifekacpaaGreatDoorJActs
namespace Go.Proofs.YtgnappifekacpaaGreatDoor
open Go.RowKit Go.Shelf Go.Maps

abbrev Told := List (Value × List (List ByteArray))
/-- Both trees in the box, the act in block qb; the lists of R read. -/
def PA (w : World) (pb bt bm : Nat) (room : Int) (qb : Nat) (a : ActJ) (R : Told) (Sx Sy : St) (W : World) : Prop :=
  ∃ W5 Z5, Bx w pb bt bm W5 Z5 room [(false, bt, Sx), (true, bm, Sy)] W ∧ W5.heap[qb]? = some (.cells #[.int .i64 a.op, .int .i64 a.n, .int .i64 a.m, .string a.name, a.lv, .string a.text] 34 (0, 0)) ∧ ¬ Z5 qb ∧ ∀ x ∈ R, ReadsFF (fun n => ¬ Z5 n) W5 x.1 x.2
section
variable {w W W' : World} {pb bt bm qb : Nat} {room : Int} {a : ActJ} {R : Told} {S Sx Sy Sx' Sy' : St} {n : Nat}
theorem PA.below (h : PA w pb bt bm room qb a R Sx Sy W) (hb : Below W.heap.size W W') : PA w pb bt bm room qb a R Sx Sy W' := by
  obtain ⟨W5, Z5, h1, h2⟩ := h
  exact ⟨W5, Z5, Bx.below h1 hb, h2⟩
theorem PA.back (h : PA w pb bt bm room qb a R Sx Sy W) : Below w.heap.size w W := by
  obtain ⟨W5, Z5, h1, _⟩ := h
  exact bxBack h1
theorem PA.box (h : PA w pb bt bm room qb a R Sx Sy W) : ∃ W5 Z5, Bx w pb bt bm W5 Z5 room [(false, bt, Sx), (true, bm, Sy)] W := by
  obtain ⟨W5, Z5, h1, _⟩ := h
  exact ⟨W5, Z5, h1⟩
/-- What lies where. -/
def PCells (W : World) (pb bt bm qb : Nat) (a : ActJ) : Prop :=
  W.cell? ⟨pb, 0, none⟩ = some (.pointer (some ⟨bt, 0, none⟩)) ∧ W.cell? ⟨pb, 1, none⟩ = some (.pointer (some ⟨bm, 0, none⟩)) ∧
  W.cell? ⟨qb, 0, none⟩ = some (.int .i64 a.op) ∧ W.cell? ⟨qb, 1, none⟩ = some (.int .i64 a.n) ∧ W.cell? ⟨qb, 2, none⟩ = some (.int .i64 a.m) ∧ W.cell? ⟨qb, 3, none⟩ = some (.string a.name) ∧ W.cell? ⟨qb, 4, none⟩ = some a.lv ∧ W.cell? ⟨qb, 5, none⟩ = some (.string a.text)
theorem PA.cells (h : PA w pb bt bm room qb a R Sx Sy W) : PCells W pb bt bm qb a := by
  obtain ⟨W5, Z5, h1, h2, h3, _⟩ := h
  have hx := h1.1.cells h2 h3
  obtain ⟨q0, q1⟩ := bxAt h1
  exact ⟨q0, q1, by rw [Lib.cell_of_heap hx]; rfl, by rw [Lib.cell_of_heap hx]; rfl, by rw [Lib.cell_of_heap hx]; rfl, by rw [Lib.cell_of_heap hx]; rfl, by rw [Lib.cell_of_heap hx]; rfl, by rw [Lib.cell_of_heap hx]; rfl⟩
theorem PA.start {W1 : World} {Z : Nat → Prop} (h : Bx w pb bt bm W1 Z room [(false, bt, Sx), (true, bm, Sy)] W) (a : ActJ) : PA w pb bt bm room W.heap.size a [] Sx Sy (W.alloc (.cells #[.int .i64 a.op, .int .i64 a.n, .int .i64 a.m, .string a.name, a.lv, .string a.text] 34)) := by
  obtain ⟨Z5, h1, h2, _⟩ := Bx.prot h ((Below.refl _ W).alloc (Nat.le_refl _) (.cells #[.int .i64 a.op, .int .i64 a.n, .int .i64 a.m, .string a.name, a.lv, .string a.text] 34))
  exact ⟨_, Z5, h1, World.alloc_heap_new W _, h2 _ (Nat.le_refl _) (by simp), by simp⟩
theorem PA.forget (h : PA w pb bt bm room qb a R Sx Sy W) : PA w pb bt bm room qb a [] Sx Sy W := by
  obtain ⟨W5, Z5, h1, h2, h3, _⟩ := h
  exact ⟨W5, Z5, h1, h2, h3, by simp⟩
theorem PA.reads (h : PA w pb bt bm room qb a R Sx Sy W) {v : Value} {xss : List (List ByteArray)} (hm : (v, xss) ∈ R) : ReadsLL W W.heap.size v xss := by
  obtain ⟨W5, Z5, h1, _, _, h4⟩ := h
  exact (Bx.reads h1 (h4 _ hm)).reads
theorem PA.does (h : PA w pb bt bm room qb a R Sx Sy W) {f : FuncId} {args : Array Value} {v : Value} (hc : ∀ W5 Z5, Bx w pb bt bm W5 Z5 room [(false, bt, Sx), (true, bm, Sy)] W → Calls Tryz.prog f args W fun r w' => r = .returned v ∧ Bx w pb bt bm W5 Z5 room [(false, bt, Sx'), (true, bm, Sy')] w') :
    Calls Tryz.prog f args W fun r w' => r = .returned v ∧ PA w pb bt bm room qb a R Sx' Sy' w' := by
  obtain ⟨W5, Z5, h1, h2⟩ := h
  exact (hc W5 Z5 h1).mono fun _ _ k => ⟨k.1, W5, Z5, k.2, h2⟩
theorem PA.tells (h : PA w pb bt bm room qb a R Sx Sy W) {f : FuncId} {args : Array Value} {ls : LL} {u : Value}
    (hc : ∀ W5 Z5, Bx w pb bt bm W5 Z5 room [(false, bt, Sx), (true, bm, Sy)] W → Calls Tryz.prog f args W (BxPost w pb bt bm W5 Z5 room [(false, bt, Sx'), (true, bm, Sy')] ls u)) :
    Calls Tryz.prog f args W fun r w' => ∃ o c, r = .returned (.tuple #[.slice o ls.length c, u]) ∧ PA w pb bt bm room qb a ((.slice o ls.length c, LLtxt ls) :: R) Sx' Sy' w' := by
  obtain ⟨W5, Z5, h1, h2, h3, h4⟩ := h
  refine (hc W5 Z5 h1).mono ?_
  rintro r w' ⟨o, c, w6, Z6, rfl, k2, k3, k4, k5⟩
  refine ⟨o, c, rfl, w6, Z6, k3, k4.cells h2 h3, fun hz => h3 (k5 _ hz), fun x hx => ?_⟩
  rcases List.mem_cons.1 hx with rfl | hx
  · exact k2
  · exact (h4 x hx).rebox k4 k5
end

/-! ### the document's journal, in the box -/
section
variable {w W1 W : World} {pb bt bm b n : Nat} {Z : Nat → Prop} {room : Int} {l : List Ent} {S : St}
theorem Bx.rjread (h : Bx w pb bt bm W1 Z room ((true, b, S) :: l) W) (hg : Good room n S) (p : ByteArray) (ht : (textOf S.now p.data.toList).length ≤ 100000) :
    Calls Tryz.prog 27 #[.pointer (some ⟨b, 0, none⟩), .string p] W (BxPost w pb bt bm W1 Z room ((true, b, S) :: l) (listsOf (textOf S.now p.data.toList)) (.bool (wholeB (textOf S.now p.data.toList)))) :=
  (h.1.rjread hg p ht).mono fun _ w' ⟨o, c, k1, k2, k3⟩ => by
    obtain ⟨Z5, q1, q2, q3, q4⟩ := TreeS.same W h.1 k3
    exact ⟨o, c, w', Z5, k1, k2.wider (fun n hn hlt => q4 n hn hlt), h.rebox q2 q3 q1, q2, q3⟩
theorem Bx.rjopen (h : Bx w pb bt bm W1 Z room ((true, b, S) :: l) W) (hg : Good room n S) (hn : n < 268435300) (p : ByteArray) (hp : p.size ≤ 1048000) (ht : ∀ q, (textOf S.now q).length ≤ 100000) :
    Calls Tryz.prog 16 #[.pointer (some ⟨b, 0, none⟩), .string p] W (BxPost w pb bt bm W1 Z room ((true, b, (jOpen room S p.data.toList).2.2) :: l) (jOpen room S p.data.toList).1 (.int .i64 (jOpen room S p.data.toList).2.1)) :=
  (h.1.rjopen hg hn p hp ht).mono fun _ _ ⟨o, c, w5, Z5, k1, k2, k3, k4, k5⟩ => ⟨o, c, w5, Z5, k1, k2, h.rebox k4 k5 k3, k4, k5⟩
theorem BxPost.swap {e f : Ent} {ls : LL} {u : Value} {r : Ending} {w' : World} (h : BxPost w pb bt bm W1 Z room (e :: f :: l) ls u r w') : BxPost w pb bt bm W1 Z room (f :: e :: l) ls u r w' := by
  obtain ⟨o, c, w5, Z5, k1, k2, k3, k4⟩ := h
  exact ⟨o, c, w5, Z5, k1, k2, k3.swap, k4⟩
end

/-! ### an act -/
/-- What an act of the kind K leaves. -/
noncomputable def jActK (room : Int) (S : St) (a : ActJ) (K : Nat) : St :=
  if K ≤ 2 then (jAdd room S a.name.data.toList (rawOf (firstOf a.xss))).2
  else if K = 3 then (jOpen room S a.name.data.toList).2.2
  else if K = 4 then (jAnew room S a.name.data.toList (rawLL a.xss)).2
  else if K = 5 then opS S
  else if K = 6 then opC S a.n a.m
  else (opA room S a.name.data.toList a.text.data.toList).2
theorem Good.jActK {room : Int} {n : Nat} {S : St} (h : Good room n S) (a : ActJ) (K : Nat) : Good room (n + 4) (jActK room S a K) := by
  unfold Proofs.YtgnappifekacpaaGreatDoor.jActK
  split
  · exact (h.jAdd _ _).more (by omega)
  · split
    · exact h.jOpen _
    · split
      · exact (h.jAnew _ _).more (by omega)
      · split
        · exact h.opS.more (by omega)
        · split
          · exact (h.opC _ _).more (by omega)
          · exact (h.opA _ _).more (by omega)
theorem Good.texts {room : Int} {n : Nat} {S : St} (h : Good room n S) (hr : room ≤ 3000) (q : BS) : (textOf S.now q).length ≤ 100000 := by
  have h1 := text_used S.now q
  have h2 := h.files.fit
  omega
theorem firstOf_ok {a : ActJ} (h : AJOk a) : (firstOf a.xss).length ≤ maxLen ∧ ∀ x ∈ firstOf a.xss, x.size ≤ 1000000 := by
  obtain ⟨_, k, _⟩ := tiny_okb h.tiny
  cases hx : a.xss with
  | nil => simp [firstOf]
  | cons x r => exact k x (by rw [hx]; exact List.mem_cons_self ..)

theorem Bx.ofAt {w W1 W : World} {pb bt bm : Nat} {Z : Nat → Prop} {room : Int} {l l' : List Ent} (h : Bx w pb bt bm W1 Z room l W) {f : FuncId} {args : Array Value} {v : Value} (hc : Calls Tryz.prog f args W fun r w' => r = .returned v ∧ At W1 Z room l' w') :
    Calls Tryz.prog f args W fun r w' => r = .returned v ∧ Bx w pb bt bm W1 Z room l' w' := hc.mono fun _ _ k => ⟨k.1, k.2, h.2⟩
section
variable {w W : World} {pb bt bm qb : Nat} {room : Int} {a : ActJ} {R : Told} {S T : St} {n : Nat}
theorem PA.add (h : PA w pb bt bm room qb a R S T W) (hg : Good room n S) (hn : n < 268435300) (ha : AJOk a) {v : Value} (hv : ReadsO w w.heap.size v (firstOf a.xss)) :
    Calls Tryz.prog 12 #[.pointer (some ⟨bt, 0, none⟩), .string a.name, v] W fun r w' => r = .returned (.int .i64 (jAdd room S a.name.data.toList (rawOf (firstOf a.xss))).1) ∧ PA w pb bt bm room qb a R ((jAdd room S a.name.data.toList (rawOf (firstOf a.xss))).2) T w' := by
  have ha1 := ha.name1
  exact h.does fun W5 Z5 hB => hB.jadd hg (by omega) a.name (by omega) v (firstOf a.xss) (hv.below (bxBack hB) (bxBack hB).size) (firstOf_ok ha)
theorem PA.radd (h : PA w pb bt bm room qb a R T S W) (hg : Good room n S) (hn : n < 268435300) (ha : AJOk a) {v : Value} (hv : ReadsO w w.heap.size v (firstOf a.xss)) :
    Calls Tryz.prog 14 #[.pointer (some ⟨bm, 0, none⟩), .string a.name, v] W fun r w' => r = .returned (.int .i64 (jAdd room S a.name.data.toList (rawOf (firstOf a.xss))).1) ∧ PA w pb bt bm room qb a R T ((jAdd room S a.name.data.toList (rawOf (firstOf a.xss))).2) w' := by
  have ha1 := ha.name1
  exact h.does fun W5 Z5 hB => (Bx.ofAt hB (hB.swap.1.rjadd hg (by omega) a.name (by omega) v (firstOf a.xss) (hv.below (bxBack hB) (bxBack hB).size) (firstOf_ok ha))).mono fun _ _ k => ⟨k.1, k.2.swap⟩
theorem PA.anew (h : PA w pb bt bm room qb a R S T W) (hg : Good room n S) (hn : n < 268435300) (ha : AJOk a) (hv : ReadsLL w w.heap.size a.lv a.xss) :
    Calls Tryz.prog 18 #[.pointer (some ⟨bt, 0, none⟩), .string a.name, a.lv] W fun r w' => r = .returned (.int .i64 (jAnew room S a.name.data.toList (rawLL a.xss)).1) ∧ PA w pb bt bm room qb a R ((jAnew room S a.name.data.toList (rawLL a.xss)).2) T w' := by
  have ha1 := ha.name1
  exact h.does fun W5 Z5 hB => hB.janew hg (by omega) a.name (by omega) a.lv a.xss (hv.below (bxBack hB) (bxBack hB).size) (tiny_okb ha.tiny).1 (tiny_okb ha.tiny).2.1 (tiny_okb ha.tiny).2.2.1
theorem PA.ranew (h : PA w pb bt bm room qb a R T S W) (hg : Good room n S) (hn : n < 268435300) (ha : AJOk a) (hv : ReadsLL w w.heap.size a.lv a.xss) :
    Calls Tryz.prog 19 #[.pointer (some ⟨bm, 0, none⟩), .string a.name, a.lv] W fun r w' => r = .returned (.int .i64 (jAnew room S a.name.data.toList (rawLL a.xss)).1) ∧ PA w pb bt bm room qb a R T ((jAnew room S a.name.data.toList (rawLL a.xss)).2) w' := by
  have ha1 := ha.name1
  exact h.does fun W5 Z5 hB => (Bx.ofAt hB (hB.swap.1.rjanew hg (by omega) a.name (by omega) a.lv a.xss (hv.below (bxBack hB) (bxBack hB).size) (tiny_okb ha.tiny).1 (tiny_okb ha.tiny).2.1 (tiny_okb ha.tiny).2.2.1)).mono fun _ _ k => ⟨k.1, k.2.swap⟩
theorem PA.sync (h : PA w pb bt bm room qb a R S T W) (hg : Good room n S) (_hn : n < 268435300) (_ha : AJOk a) :
    Calls Tryz.prog 20 #[.pointer (some ⟨bt, 0, none⟩)] W fun r w' => r = .returned (.tuple #[]) ∧ PA w pb bt bm room qb a R (opS S) T w' := by
  exact h.does fun W5 Z5 hB => hB.sync hg
theorem PA.rsync (h : PA w pb bt bm room qb a R T S W) (_hg : Good room n S) (_hn : n < 268435300) (_ha : AJOk a) :
    Calls Tryz.prog 21 #[.pointer (some ⟨bm, 0, none⟩)] W fun r w' => r = .returned (.tuple #[]) ∧ PA w pb bt bm room qb a R T (opS S) w' := by
  exact h.does fun W5 Z5 hB => (Bx.ofAt hB (hB.swap.1.rsync )).mono fun _ _ k => ⟨k.1, k.2.swap⟩
theorem PA.crash (h : PA w pb bt bm room qb a R S T W) (hg : Good room n S) (_hn : n < 268435300) (ha : AJOk a) :
    Calls Tryz.prog 22 #[.pointer (some ⟨bt, 0, none⟩), .int .i64 a.n, .int .i64 a.m] W fun r w' => r = .returned (.tuple #[]) ∧ PA w pb bt bm room qb a R (opC S a.n a.m) T w' := by
  exact h.does fun W5 Z5 hB => hB.crash hg a.n a.m (by have := ha.m.2; omega)
theorem PA.rcrash (h : PA w pb bt bm room qb a R T S W) (hg : Good room n S) (_hn : n < 268435300) (ha : AJOk a) :
    Calls Tryz.prog 23 #[.pointer (some ⟨bm, 0, none⟩), .int .i64 a.n, .int .i64 a.m] W fun r w' => r = .returned (.tuple #[]) ∧ PA w pb bt bm room qb a R T (opC S a.n a.m) w' := by
  exact h.does fun W5 Z5 hB => (Bx.ofAt hB (hB.swap.1.rcrash hg a.n a.m (by have := ha.m.2; omega))).mono fun _ _ k => ⟨k.1, k.2.swap⟩
theorem PA.append (h : PA w pb bt bm room qb a R S T W) (hg : Good room n S) (hn : n < 268435300) (ha : AJOk a) :
    Calls Tryz.prog 24 #[.pointer (some ⟨bt, 0, none⟩), .string a.name, .string a.text] W fun r w' => r = .returned (.int .i64 (opA room S a.name.data.toList a.text.data.toList).1) ∧ PA w pb bt bm room qb a R ((opA room S a.name.data.toList a.text.data.toList).2) T w' := by
  have ha1 := ha.name1
  have ha2 := ha.text1
  exact h.does fun W5 Z5 hB => hB.append hg (by omega) a.name a.text (by omega) (by omega)
theorem PA.rappend (h : PA w pb bt bm room qb a R T S W) (hg : Good room n S) (hn : n < 268435300) (ha : AJOk a) :
    Calls Tryz.prog 25 #[.pointer (some ⟨bm, 0, none⟩), .string a.name, .string a.text] W fun r w' => r = .returned (.int .i64 (opA room S a.name.data.toList a.text.data.toList).1) ∧ PA w pb bt bm room qb a R T ((opA room S a.name.data.toList a.text.data.toList).2) w' := by
  have ha1 := ha.name1
  have ha2 := ha.text1
  exact h.does fun W5 Z5 hB => (Bx.ofAt hB (hB.swap.1.rappend hg (by omega) a.name a.text (by omega) (by omega))).mono fun _ _ k => ⟨k.1, k.2.swap⟩
theorem PA.open (h : PA w pb bt bm room qb a R S T W) (hg : Good room n S) (hn : n < 268435300) (ha : AJOk a) (hr : room ≤ 3000) :
    Calls Tryz.prog 15 #[.pointer (some ⟨bt, 0, none⟩), .string a.name] W fun r w' => ∃ o c, r = .returned (.tuple #[.slice o ((jOpen room S a.name.data.toList).1).length c, .int .i64 (jOpen room S a.name.data.toList).2.1]) ∧ PA w pb bt bm room qb a ((.slice o ((jOpen room S a.name.data.toList).1).length c, LLtxt ((jOpen room S a.name.data.toList).1)) :: R) ((jOpen room S a.name.data.toList).2.2) T w' := by
  have ha1 := ha.name1
  have ht := hg.texts hr
  exact h.tells fun W5 Z5 hB => hB.jopen hg (by omega) a.name (by omega) (fun q => by have := ht q; omega)
theorem PA.ropen (h : PA w pb bt bm room qb a R T S W) (hg : Good room n S) (hn : n < 268435300) (ha : AJOk a) (hr : room ≤ 3000) :
    Calls Tryz.prog 16 #[.pointer (some ⟨bm, 0, none⟩), .string a.name] W fun r w' => ∃ o c, r = .returned (.tuple #[.slice o ((jOpen room S a.name.data.toList).1).length c, .int .i64 (jOpen room S a.name.data.toList).2.1]) ∧ PA w pb bt bm room qb a ((.slice o ((jOpen room S a.name.data.toList).1).length c, LLtxt ((jOpen room S a.name.data.toList).1)) :: R) T ((jOpen room S a.name.data.toList).2.2) w' := by
  have ha1 := ha.name1
  have ht := hg.texts hr
  exact h.tells fun W5 Z5 hB => (hB.swap.rjopen hg (by omega) a.name (by omega) ht).mono fun _ _ k => k.swap
theorem PA.read (h : PA w pb bt bm room qb a R S T W) (hg : Good room n S) (_hn : n < 268435300) (ha : AJOk a) (hr : room ≤ 3000) :
    Calls Tryz.prog 26 #[.pointer (some ⟨bt, 0, none⟩), .string a.name] W fun r w' => ∃ o c, r = .returned (.tuple #[.slice o (listsOf (textOf S.now a.name.data.toList)).length c, .bool (wholeB (textOf S.now a.name.data.toList))]) ∧ PA w pb bt bm room qb a ((.slice o (listsOf (textOf S.now a.name.data.toList)).length c, LLtxt (listsOf (textOf S.now a.name.data.toList))) :: R) (S) T w' := by
  have ha1 := ha.name1
  have ht := hg.texts hr
  exact h.tells fun W5 Z5 hB => hB.jread a.name (by omega) (by have := ht a.name.data.toList; omega)
theorem PA.rread (h : PA w pb bt bm room qb a R T S W) (hg : Good room n S) (_hn : n < 268435300) (_ha : AJOk a) (hr : room ≤ 3000) :
    Calls Tryz.prog 27 #[.pointer (some ⟨bm, 0, none⟩), .string a.name] W fun r w' => ∃ o c, r = .returned (.tuple #[.slice o (listsOf (textOf S.now a.name.data.toList)).length c, .bool (wholeB (textOf S.now a.name.data.toList))]) ∧ PA w pb bt bm room qb a ((.slice o (listsOf (textOf S.now a.name.data.toList)).length c, LLtxt (listsOf (textOf S.now a.name.data.toList))) :: R) T (S) w' := by
  have ht := hg.texts hr
  exact h.tells fun W5 Z5 hB => (hB.swap.rjread hg a.name (ht _)).mono fun _ _ k => k.swap
theorem PA.alike (h : PA w pb bt bm room qb a R S S W) (hg : Good room n S) (hn : n < 268435300) :
    Calls Tryz.prog 28 #[.agg #[.pointer (some ⟨bt, 0, none⟩), .pointer (some ⟨bm, 0, none⟩)]] W fun r w' => r = .returned (.bool true) ∧ PA w pb bt bm room qb a R S S w' :=
  h.does fun W5 Z5 hB => hB.alike hg (by omega)
/-- Two lists that were told, the same. -/
theorem PA.same (h : PA w pb bt bm room qb a R S S W) {u u' : Value} {ls : LL} (hm : (u, LLtxt ls) ∈ R) (hm' : (u', LLtxt ls) ∈ R) (hl : ls.length ≤ 100000) (hf : ∀ x ∈ ls, Fit x) :
    Calls Tryz.prog 17 #[u, u'] W fun e w' => e = .returned (.bool true) ∧ PA w pb bt bm room qb a R S S w' := by
  obtain ⟨k1, k2⟩ := lltxt_ok (ls := ls) (by unfold maxLen; omega) hf
  have := same_at (t := true) (h.reads hm) (h.reads hm') k1 k2 (by simp) W (Below.refl _ _)
  exact this.mono fun _ _ k => ⟨k.1, h.below k.2⟩
end
theorem lists_small (s : BS) (h : s.length ≤ 100000) : (listsOf s).length ≤ 100000 := by have := lists_count s; omega
theorem open_lists_are (room : Int) (S : St) (p : BS) (hs : Srt S.now) (ht : ∀ q, (textOf S.now q).length ≤ 100000) : (jOpen room S p).1.length ≤ 100000 ∧ ∀ x ∈ (jOpen room S p).1, Fit x := by
  have hl : (listsOf (textOf (opR S (besideL p)).2.now p)).length ≤ 100000 := by
    refine lists_small _ ?_
    rw [opR_now]
    rw [text_drp_other hs (beside_ne p)]
    exact ht p
  unfold jOpen
  split
  · split
    · exact ⟨hl, lists_fit _⟩
    · split
      · exact ⟨hl, lists_fit _⟩
      · simp
  · simp

end Go.Proofs.YtgnappifekacpaaGreatDoor
