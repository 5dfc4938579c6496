/-
  Trees, rows and lists that were told, as things of the call's own: the tree's and the journal's calls there.
-/
import Derived.Test.YtchnbnmajagpjaaGreatDoorOwn
import Derived.Test.YtchnbnmajagpjaaGreatDoorKDoc
namespace Go.Proofs.YtchnbnmajagpjaaGreatDoor
open Go.RowKit Go.Shelf Go.Maps

/-! ### trees -/
/-- A tree: the document's (true), or the program's; its block; what it holds. -/
def oEnt (room : Int) (e : Ent) : Own where
  holds w X := HoldsE room w X e
  kept h hT hd := HoldsE.kept h hT hd
  lt h := HoldsE.lt h
abbrev oTree (room : Int) (b : Nat) (S : St) : Own := oEnt room (false, b, S)
abbrev oRef (room : Int) (b : Nat) (S : St) : Own := oEnt room (true, b, S)
theorem at_of {w : World} {room : Int} {e : Ent} {X : Nat → Prop} (h : HoldsE room w X e) : At w (fun n => X n ∨ w.heap.size ≤ n) room [e] w :=
  ⟨(turned_below (Below.refl _ w)).wider fun _ h => h.elim, fun _ hn => .inr hn, X, fun _ => False, h, trivial, fun _ _ h => h, fun _ hn => .inl (hn.elim id False.elim)⟩
theorem turned_of {w w' : World} {X : Nat → Prop} (h : Turned (fun n => X n ∨ w.heap.size ≤ n) w w') : Turned X w w' := ⟨h.os, h.tape, h.output, h.size, fun k hk hx => h.block k hk (fun h => h.elim hx (by omega))⟩
theorem of_at {w w' : World} {room : Int} {e : Ent} {X : Nat → Prop} (h : At w (fun n => X n ∨ w.heap.size ≤ n) room [e] w') : ∃ X', HoldsE room w' X' e ∧ Turned X w w' ∧ ∀ n, X' n → X n ∨ w.heap.size ≤ n := by
  obtain ⟨hT, _, X', Y, k1, _, _, k4⟩ := h
  exact ⟨X', k1, turned_of hT, fun n hn => k4 n (.inl hn)⟩
/-- A list of lists that was told. -/
def oList (v : Value) (xss : List (List ByteArray)) : Own where
  holds w X := ReadsFF X w v xss ∧ ∀ n, X n → n < w.heap.size
  kept h hT hd := ⟨h.1.kept hT (fun n hn _ => hd n hn), fun n hn => Nat.lt_of_lt_of_le (h.2 n hn) hT.size⟩
  lt h := h.2
/-- A row of the call's own. -/
def oRow {α : Type} (E : TypeId) (k : Nat) (enc : α → List Value) (v : Value) (l : List α) : Own where
  holds w X := RowR E k enc w X v l ∧ ∀ n, X n → n < w.heap.size
  kept h hT hd := ⟨RowR.kept h.1 hT hd, fun n hn => Nat.lt_of_lt_of_le (h.2 n hn) hT.size⟩
  lt h := h.2
section
variable {w0 w w' : World} {l : List Own} {room : Int} {b c n : Nat} {S T : St} {e e' : Ent}
theorem In.ent (h : In w0 (oEnt room e :: l) w) {f : FuncId} {args : Array Value} {v : Value} (hc : ∀ Z, At w Z room [e] w → Calls Tryz.prog f args w fun r w' => r = .returned v ∧ At w Z room [e'] w') :
    Calls Tryz.prog f args w fun r w' => r = .returned v ∧ In w0 (oEnt room e' :: l) w' :=
  h.call1 fun _ hX => (hc _ (at_of hX)).mono fun _ _ k => ⟨k.1, of_at k.2⟩
theorem In.tree (h : In w0 l w) (hm : oTree room b S ∈ l) : ∃ X, TreeS w X b room S := by
  obtain ⟨X, h1, _⟩ := h.get hm
  exact ⟨X, h1⟩
theorem In.ref (h : In w0 l w) (hm : oRef room b S ∈ l) : ∃ X, RefS w X b room S := by
  obtain ⟨X, h1, _⟩ := h.get hm
  exact ⟨X, h1⟩
theorem In.list (h : In w0 l w) {v : Value} {xss : List (List ByteArray)} (hm : oList v xss ∈ l) : ReadsLL w w.heap.size v xss := by
  obtain ⟨X, h1, _⟩ := h.get hm
  exact h1.1.reads
theorem In.row {α : Type} (h : In w0 l w) {E : TypeId} {k : Nat} {enc : α → List Value} {v : Value} {xs : List α} (hm : oRow E k enc v xs ∈ l) (hk : ∀ x, (enc x).length = k) :
    ∃ o c, v = .slice o xs.length c ∧ xs.length ≤ c ∧ c ≤ maxLen ∧ (∀ a, o = some a → ∃ g, a = ⟨g, 0, none⟩) ∧ ∀ i x, xs[i]? = some x → ∃ g, o = some ⟨g, 0, none⟩ ∧ ∀ j, j < k → w.cell? ⟨g, i * k + j, none⟩ = (enc x)[j]? := by
  obtain ⟨X, h1, _⟩ := h.get hm
  obtain ⟨o, c, q1, q2, q3, q4, q5⟩ := h1.1.shape hk
  exact ⟨o, c, q1, q2, q3, fun a ha => by obtain ⟨g, hg, _⟩ := q4 a ha; exact ⟨g, hg⟩, q5⟩
/-- An empty row. -/
theorem In.empty {α : Type} (h : In w0 l w) (E : TypeId) (k : Nat) (enc : α → List Value) : In w0 (oRow E k enc (.slice none 0 0) [] :: l) w :=
  h.add (Below.refl _ _) (X := fun _ => False) ⟨RowR.nil _ _ _ _ _, fun _ h => h.elim⟩ (fun _ h => h.elim)
/-- One element more. -/
theorem In.push {α : Type} {t E : TypeId} {k : Nat} {enc : α → List Value} {v : Value} {xs : List α} (hT : RowT t E k) (h : In w0 (oRow E k enc v xs :: l) w) (x : α) (hk : (enc x).length = k) (h1 : ∀ u ∈ enc x, u.oneCell' = true) (hl : xs.length < 1099511627776) (ty : TypeId) :
    ∃ o c w', (Builtin.append_ #[t, t] ty #[v, .slice (some ⟨w.heap.size, 0, none⟩) 1 1]).run Tryz.prog (w.alloc (.cells (enc x).toArray E)) = .ok (.slice o (xs.length + 1) c) w' ∧ In w0 (oRow E k enc (.slice o (xs.length + 1) c) (xs ++ [x]) :: l) w' := by
  have hba : Below w.heap.size w (w.alloc (.cells (enc x).toArray E)) := (Below.refl _ w).alloc (Nat.le_refl _) _
  have h9 := h.below hba
  have hx9 := World.alloc_heap_new w (.cells (enc x).toArray E)
  obtain ⟨Z, ⟨X, Y, q1, q2, q3, q4⟩, q5, q6⟩ := id h9
  obtain ⟨v', w', hrun, hR, hTu, o, c, rfl⟩ := RowR.push hT q1.1 x hk h1 w.heap.size 1 (0, 0) hx9 hl ty
  refine ⟨o, c, w', hrun, In.step (l1 := [oRow E k enc v xs]) (l2 := [oRow E k enc (.slice o (xs.length + 1) c) (xs ++ [x])]) h9 fun X2 hX2 => ?_⟩
  obtain ⟨X3, k1, k2⟩ := os_one hX2
  obtain ⟨v2, w2, hrun2, hR2, hTu2, o2, c2, rfl⟩ := RowR.push hT k1.1 x hk h1 w.heap.size 1 (0, 0) hx9 hl ty
  rw [hrun] at hrun2
  cases hrun2
  refine ⟨fun n => (X3 n ∨ n = (w.alloc (.cells (enc x).toArray E)).heap.size) ∧ n < w'.heap.size, os_mk ⟨hR2.tight, fun n hn => hn.2⟩, hTu2.wider k2, fun n hn => ?_⟩
  rcases hn.1 with h | h
  · exact .inl (k2 n h)
  · exact .inr (by omega)

/-! ### the program's tree, and the document's -/
theorem In.sync (h : In w0 (oTree room b S :: l) w) (hg : Good room n S) :
    Calls Tryz.prog 26 #[.pointer (some ⟨b, 0, none⟩)] w fun r w' => r = .returned (.tuple #[]) ∧ In w0 (oTree room b (opS S) :: l) w' := h.ent fun _ hA => hA.sync hg
theorem In.crash (h : In w0 (oTree room b S :: l) w) (hg : Good room n S) (many part : Int) (hp : part < 9223372036854775808) :
    Calls Tryz.prog 17 #[.pointer (some ⟨b, 0, none⟩), .int .i64 many, .int .i64 part] w fun r w' => r = .returned (.tuple #[]) ∧ In w0 (oTree room b (opC S many part) :: l) w' := h.ent fun _ hA => hA.crash hg many part hp
theorem In.rcrash (h : In w0 (oRef room b S :: l) w) (hg : Good room n S) (many part : Int) (hp : part < 9223372036854775808) :
    Calls Tryz.prog 18 #[.pointer (some ⟨b, 0, none⟩), .int .i64 many, .int .i64 part] w fun r w' => r = .returned (.tuple #[]) ∧ In w0 (oRef room b (opC S many part) :: l) w' := h.ent fun _ hA => hA.rcrash hg many part hp
theorem In.jadd (h : In w0 (oTree room b S :: l) w) (hg : Good room n S) (hn : n < 268435400) (p : ByteArray) (hp : p.size ≤ 1048000) (v : Value) (xs : List ByteArray) (hr : ReadsO w w.heap.size v xs) (hm : xs.length ≤ maxLen ∧ ∀ x ∈ xs, x.size ≤ 1000000) :
    Calls Tryz.prog 19 #[.pointer (some ⟨b, 0, none⟩), .string p, v] w fun r w' => r = .returned (.int .i64 (jAdd room S p.data.toList (rawOf xs)).1) ∧ In w0 (oTree room b (jAdd room S p.data.toList (rawOf xs)).2 :: l) w' := h.ent fun _ hA => hA.jadd hg hn p hp v xs hr hm
theorem In.rjadd (h : In w0 (oRef room b S :: l) w) (hg : Good room n S) (hn : n < 268435400) (p : ByteArray) (hp : p.size ≤ 1048000) (v : Value) (xs : List ByteArray) (hr : ReadsO w w.heap.size v xs) (hm : xs.length ≤ maxLen ∧ ∀ x ∈ xs, x.size ≤ 1000000) :
    Calls Tryz.prog 20 #[.pointer (some ⟨b, 0, none⟩), .string p, v] w fun r w' => r = .returned (.int .i64 (jAdd room S p.data.toList (rawOf xs)).1) ∧ In w0 (oRef room b (jAdd room S p.data.toList (rawOf xs)).2 :: l) w' := h.ent fun _ hA => hA.rjadd hg hn p hp v xs hr hm
theorem In.janew (h : In w0 (oTree room b S :: l) w) (hg : Good room n S) (hn : n < 268435400) (p : ByteArray) (hp : p.size ≤ 1048000) (v : Value) (xss : List (List ByteArray)) (hr : ReadsLL w w.heap.size v xss) (hx : xss.length ≤ maxLen) (hm : ∀ xs ∈ xss, xs.length ≤ maxLen ∧ ∀ x ∈ xs, x.size ≤ 1000000) (hb : Mod (rawLL xss)) :
    Calls Tryz.prog 31 #[.pointer (some ⟨b, 0, none⟩), .string p, v] w fun r w' => r = .returned (.int .i64 (jAnew room S p.data.toList (rawLL xss)).1) ∧ In w0 (oTree room b (jAnew room S p.data.toList (rawLL xss)).2 :: l) w' := h.ent fun _ hA => hA.janew hg hn p hp v xss hr hx hm hb
theorem In.rjanew (h : In w0 (oRef room b S :: l) w) (hg : Good room n S) (hn : n < 268435400) (p : ByteArray) (hp : p.size ≤ 1048000) (v : Value) (xss : List (List ByteArray)) (hr : ReadsLL w w.heap.size v xss) (hx : xss.length ≤ maxLen) (hm : ∀ xs ∈ xss, xs.length ≤ maxLen ∧ ∀ x ∈ xs, x.size ≤ 1000000) (hb : Mod (rawLL xss)) :
    Calls Tryz.prog 33 #[.pointer (some ⟨b, 0, none⟩), .string p, v] w fun r w' => r = .returned (.int .i64 (jAnew room S p.data.toList (rawLL xss)).1) ∧ In w0 (oRef room b (jAnew room S p.data.toList (rawLL xss)).2 :: l) w' := h.ent fun _ hA => hA.rjanew hg hn p hp v xss hr hx hm hb
/-- What Open leaves: the records, and the tree. -/
def OpenIn (w0 : World) (l : List Own) (room : Int) (k : Bool) (b : Nat) (R : LL × (Int × St)) (r : Ending) (w' : World) : Prop :=
  ∃ o c, r = .returned (.tuple #[.slice o R.1.length c, .int .i64 R.2.1]) ∧ In w0 (oList (.slice o R.1.length c) (LLtxt R.1) :: oEnt room (k, b, R.2.2) :: l) w'
theorem In.opened {k : Bool} {R : LL × (Int × St)} {f : FuncId} {args : Array Value} (h : In w0 (oEnt room e :: l) w) (hc : ∀ Z, At w Z room [e] w → Calls Tryz.prog f args w (OpenPost w Z room [] k b R)) :
    Calls Tryz.prog f args w (OpenIn w0 l room k b R) := by
  refine (In.call (l1 := [oEnt room e]) (l := l) (Q := fun r l2 => ∃ o c, r = .returned (.tuple #[.slice o R.1.length c, .int .i64 R.2.1]) ∧ l2 = [oList (.slice o R.1.length c) (LLtxt R.1), oEnt room (k, b, R.2.2)]) h fun X hX => ?_).mono fun r w' ⟨l2, ⟨o, c, h1, h2⟩, h3⟩ => ⟨o, c, h1, by rw [h2] at h3; exact h3⟩
  obtain ⟨X1, k1, k2⟩ := os_one hX
  refine (hc _ (at_of k1)).mono ?_
  rintro r w' ⟨o, c, w5, Z5, rfl, q2, ⟨q3, _, X', Y, q4, _, _, q5⟩, q6, q7⟩
  have hs := q3.size
  refine ⟨_, ⟨o, c, rfl, rfl⟩, fun n => (¬ Z5 n ∧ w.heap.size ≤ n ∧ n < w5.heap.size) ∨ X' n, ⟨fun n => ¬ Z5 n ∧ w.heap.size ≤ n ∧ n < w5.heap.size, X', ⟨?_, fun n hn => by have := hn.2.2; omega⟩, os_mk q4, fun n hn hx => hn.1 (q5 n (.inl hx)), fun n hn => hn⟩, ?_, fun n hn => ?_⟩
  · exact (q2.wider fun n hn hlt => ⟨hn.1, hn.2, hlt⟩).kept q3 fun n hn _ hz => hn.1 hz
  · exact (turned_of (q6.trans (q3.wider q7))).wider k2
  · rcases hn with hn | hn
    · exact .inr hn.2.1
    · exact (q7 n (q5 n (.inl hn))).imp (k2 n) id
theorem In.jopen (h : In w0 (oTree room b S :: l) w) (hg : Good room n S) (hn : n < 268435300) (p : ByteArray) (hp : p.size ≤ 1048000) (ht : ∀ q, (textOf S.now q).length ≤ 1000000) :
    Calls Tryz.prog 29 #[.pointer (some ⟨b, 0, none⟩), .string p] w (OpenIn w0 l room false b (jOpen room S p.data.toList)) := h.opened fun _ hA => hA.jopen hg hn p hp ht
theorem In.rjopen (h : In w0 (oRef room b S :: l) w) (hg : Good room n S) (hn : n < 268435300) (p : ByteArray) (hp : p.size ≤ 1048000) (ht : ∀ q, (textOf S.now q).length ≤ 100000) :
    Calls Tryz.prog 32 #[.pointer (some ⟨b, 0, none⟩), .string p] w (OpenIn w0 l room true b (jOpen room S p.data.toList)) := h.opened fun _ hA => hA.rjopen hg hn p hp ht
theorem In.alike (h : In w0 l w) (h1 : oTree room b S ∈ l) (h2 : oRef room c S ∈ l) (hg : Good room n S) (hn : n < 268435456) :
    Calls Tryz.prog 14 #[.agg #[.pointer (some ⟨b, 0, none⟩), .pointer (some ⟨c, 0, none⟩)]] w fun r w' => r = .returned (.bool true) ∧ In w0 l w' := by
  obtain ⟨X, hX⟩ := h.tree h1
  obtain ⟨Y, hY⟩ := h.ref h2
  exact (alike_any X Y b c room n S w hX hY hg hn).mono fun _ _ k => ⟨k.1, h.below k.2⟩
theorem In.begun (h : In w0 l w) {bt bm : Nat} (hB : Begun w bt bm room w') : In w0 (oTree room bt (0, [], [], []) :: oRef room bm (0, [], [], []) :: l) w' := by
  obtain ⟨X, Y, h1, h2, h3, h4, h5, h6⟩ := hB
  refine In.step (l1 := []) (l2 := [oTree room bt (0, [], [], []), oRef room bm (0, [], [], [])]) h fun _ _ => ⟨fun n => X n ∨ Y n, ⟨X, Y, h1, os_mk h2, h3, fun n hn => hn⟩, (turned_below h6).wider fun _ h => h.elim, fun n hn => .inr (hn.elim (h4 n) (h5 n))⟩
theorem In.start (room : Int) (h0 : 1 ≤ room) (h1 : room ≤ 1073741824) (h : In w0 l w) :
    Calls Tryz.prog 10 #[.int .i64 room] w fun e w1 => ∃ bt bm, e = .returned (.tuple #[.agg #[.pointer (some ⟨bt, 0, none⟩), .pointer (some ⟨bm, 0, none⟩)], .bool true]) ∧ In w0 (oTree room bt (0, [], [], []) :: oRef room bm (0, [], [], []) :: l) w1 :=
  (begun_ok room h0 h1 w).mono fun _ _ ⟨bt, bm, h2, h3⟩ => ⟨bt, bm, h2, h.begun h3⟩
end

/-! ### rows copied; lists of lists, element by element -/
/-- A list of lists that was told, with its elements' values. -/
def oVals (v : Value) (vals : List Value) (xss : List (List ByteArray)) : Own where
  holds w X := (∃ o c, v = .slice o xss.length c ∧ vals.length = xss.length ∧ ∀ i xs, xss[i]? = some xs → ∃ b f u, o = some ⟨b, f, none⟩ ∧ X b ∧ xss.length ≤ c ∧ w.cell? ⟨b, f + i, none⟩ = some u ∧ vals[i]? = some u ∧ ReadsF X w u xs) ∧ ∀ n, X n → n < w.heap.size
  kept h hT hd := by
    obtain ⟨⟨o, c, hv, hl, hx⟩, hlt⟩ := h
    refine ⟨⟨o, c, hv, hl, fun i xs hi => ?_⟩, fun n hn => Nat.lt_of_lt_of_le (hlt n hn) hT.size⟩
    obtain ⟨b, f, u, h1, h2, h3, h4, h5, h6⟩ := hx i xs hi
    exact ⟨b, f, u, h1, h2, h3, (turned_cell hT (hlt b h2) (hd b h2)).trans h4, h5, h6.kept hT fun n hn _ => hd n hn⟩
  lt h := h.2
section
variable {w0 w w' : World} {l : List Own}
theorem In.vals {v : Value} {xss : List (List ByteArray)} (h : In w0 (oList v xss :: l) w) : ∃ vals, In w0 (oVals v vals xss :: l) w := by
  obtain ⟨Z, ⟨X, Y, ⟨⟨o, c, hv, hx⟩, hlt⟩, h2, h3, h4⟩, h5, h6⟩ := h
  obtain ⟨f, hf⟩ : ∃ f : Nat → Value, ∀ i xs, xss[i]? = some xs → ∃ b g, o = some ⟨b, g, none⟩ ∧ X b ∧ xss.length ≤ c ∧ w.cell? ⟨b, g + i, none⟩ = some (f i) ∧ ReadsF X w (f i) xs := by
    classical
    have each : ∀ i, i < xss.length → ∃ u, ∀ xs, xss[i]? = some xs → ∃ b g, o = some ⟨b, g, none⟩ ∧ X b ∧ xss.length ≤ c ∧ w.cell? ⟨b, g + i, none⟩ = some u ∧ ReadsF X w u xs := fun i hi => by
      obtain ⟨b, g, u, q1, q2, q3, q4, q5, q6⟩ := hx i _ (List.getElem?_eq_getElem hi)
      refine ⟨u, fun xs hxs => ?_⟩
      rw [List.getElem?_eq_getElem hi] at hxs
      cases hxs
      exact ⟨b, g, q1, q2, q4, q5, q6⟩
    refine ⟨fun i => if h : i < xss.length then Classical.choose (each i h) else .bool false, fun i xs hi => ?_⟩
    have hil := (List.getElem?_eq_some_iff.1 hi).1
    simp only [hil, dif_pos]
    exact Classical.choose_spec (each i hil) xs hi
  refine ⟨(List.range xss.length).map f, Z, ⟨X, Y, ⟨⟨o, c, hv, by simp, fun i xs hi => ?_⟩, hlt⟩, h2, h3, h4⟩, h5, h6⟩
  obtain ⟨b, g, q1, q2, q3, q4, q5⟩ := hf i xs hi
  exact ⟨b, g, f i, q1, q2, q3, q4, by rw [List.getElem?_map, List.getElem?_range (List.getElem?_eq_some_iff.1 hi).1]; rfl, q5⟩
theorem In.valsAt {v : Value} {vals : List Value} {xss : List (List ByteArray)} (h : In w0 l w) (hm : oVals v vals xss ∈ l) :
    ∃ o c, v = .slice o xss.length c ∧ vals.length = xss.length ∧ ∀ i xs, xss[i]? = some xs → ∃ b f u, o = some ⟨b, f, none⟩ ∧ xss.length ≤ c ∧ w.cell? ⟨b, f + i, none⟩ = some u ∧ vals[i]? = some u ∧ ReadsO w w.heap.size u xs := by
  obtain ⟨X, ⟨⟨o, c, hv, hl, hx⟩, _⟩, _⟩ := h.get hm
  refine ⟨o, c, hv, hl, fun i xs hi => ?_⟩
  obtain ⟨b, f, u, h1, _, h3, h4, h5, h6⟩ := hx i xs hi
  exact ⟨b, f, u, h1, h3, h4, h5, h6.reads⟩
theorem In.valsReads {v : Value} {vals : List Value} {xss : List (List ByteArray)} (h : In w0 l w) (hm : oVals v vals xss ∈ l) : ReadsLL w w.heap.size v xss := by
  obtain ⟨X, ⟨⟨o, c, hv, hl, hx⟩, hlt⟩, _⟩ := h.get hm
  refine ⟨o, c, hv, fun i xs hi => ?_⟩
  obtain ⟨b, f, u, h1, h2, h3, h4, h5, h6⟩ := hx i xs hi
  exact ⟨b, f, u, h1, hlt b h2, h3, h4, h6.reads⟩
/-- The first m of them, in a row of the call's own. -/
theorem In.someReads {v vk : Value} {vals : List Value} {xss : List (List ByteArray)} (h : In w0 l w) (hm : oVals v vals xss ∈ l) {m : Nat} (hk : oRow 39 1 (fun u => [u]) vk (vals.take m) ∈ l) (hmx : m ≤ xss.length) : ReadsLL w w.heap.size vk (xss.take m) := by
  obtain ⟨X, ⟨⟨o, c, hv, hl, hx⟩, _⟩, _⟩ := h.get hm
  obtain ⟨Y, ⟨hR, hlt⟩, _⟩ := h.get hk
  obtain ⟨o', c', rfl, q1, q2, q3, q4⟩ := hR.shape (fun _ => rfl)
  have e : (vals.take m).length = (xss.take m).length := by simp [hl]
  refine ⟨o', c', by rw [e], fun i xs hi => ?_⟩
  have him : i < m := by have := (List.getElem?_eq_some_iff.1 hi).1; rw [List.length_take] at this; omega
  rw [List.getElem?_take_of_lt him] at hi
  obtain ⟨b, f, u, h1, h2, h3, h4, h5, h6⟩ := hx i xs hi
  obtain ⟨g, hg, hc⟩ := q4 i u (by rw [List.getElem?_take_of_lt him]; exact h5)
  have hcell := hc 0 (by omega)
  rw [Nat.mul_one, Nat.add_zero] at hcell
  obtain ⟨g', hg', hy⟩ := q3 _ hg
  cases hg'
  exact ⟨g, 0, u, hg, hlt g hy, by rw [← e]; exact q1, by rw [Nat.zero_add]; exact hcell, h6.reads⟩
/-- A whole row, copied. -/
theorem In.copy {α : Type} {t E : TypeId} {k : Nat} {enc : α → List Value} {v : Value} {xs : List α} (hT : RowT t E k) (h : In w0 l w) (hm : oRow E k enc v xs ∈ l) (hk : ∀ x, (enc x).length = k) (h1 : ∀ x, ∀ u ∈ enc x, u.oneCell' = true) (hl : xs.length < 1073741824) (ty : TypeId) :
    ∃ o c w', (Builtin.append_ #[t, t] ty #[.slice (some ⟨w.heap.size, 0, none⟩) 0 0, v]).run Tryz.prog (w.alloc (.cells #[] E)) = .ok (.slice o xs.length c) w' ∧ In w0 (oRow E k enc (.slice o xs.length c) xs :: l) w' := by
  obtain ⟨X, h2, _⟩ := h.get hm
  obtain ⟨v', w', hrun, hR, hb⟩ := RowR.copyAny hT h2.1 hk h1 hl ty rfl
  obtain ⟨o, c, rfl, _⟩ := hR.shape hk
  exact ⟨o, c, w', hrun, h.add hb ⟨hR.tight, fun n hn => hn.2⟩ (fun n hn => hn.1)⟩
end

end Go.Proofs.YtchnbnmajagpjaaGreatDoor
