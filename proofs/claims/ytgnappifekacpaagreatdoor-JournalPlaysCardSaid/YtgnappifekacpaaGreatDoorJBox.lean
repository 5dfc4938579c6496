/-
  Journal's calls in a box of the call's own; what they told, kept.
-/
import Derived.Deep.QuietTactic
import Derived.BigQuiet
import Derived.Test.YtgnappifekacpaaGreatDoorJOpen
import Derived.Test.YtgnappifekacpaaGreatDoorJSame
import Derived.Test.YtgnappifekacpaaGreatDoorJTiny
namespace Go.Proofs.YtgnappifekacpaaGreatDoor
open Go.RowKit Go.Shelf Go.Maps

section
variable {w W1 W w5 w' : World} {pb bt bm b : Nat} {Z Z5 : Nat → Prop} {room : Int} {l l' : List Ent} {n : Nat} {S : St}
theorem Bx.rebox (h : Bx w pb bt bm W1 Z room l W) (hT : Turned Z W1 w5) (hz : ∀ n, Z5 n → Z n) (hA : At w5 Z5 room l' w') : Bx w pb bt bm w5 Z5 room l' w' := by
  obtain ⟨_, h1, h2, h3, h4⟩ := h
  exact ⟨hA, hT.cells h1 h2, fun hn => h2 (hz _ hn), h3.trans (hT.below h3.size h4), fun n hn => h4 n (hz n hn)⟩
theorem Bx.jadd (h : Bx w pb bt bm W1 Z room ((false, b, S) :: l) W) (hg : Good room n S) (hn : n < 268435400) (p : ByteArray) (hp : p.size ≤ 1048000) (v : Value) (xs : List ByteArray) (hr : ReadsO W W.heap.size v xs) (hm : xs.length ≤ maxLen ∧ ∀ x ∈ xs, x.size ≤ 1000000) :
    Calls Tryz.prog 12 #[.pointer (some ⟨b, 0, none⟩), .string p, v] W fun r w' => r = .returned (.int .i64 (jAdd room S p.data.toList (rawOf xs)).1) ∧ Bx w pb bt bm W1 Z room ((false, b, (jAdd room S p.data.toList (rawOf xs)).2) :: l) w' :=
  (h.1.jadd hg hn p hp v xs hr hm).mono fun _ _ k => ⟨k.1, k.2, h.2⟩
theorem Bx.janew (h : Bx w pb bt bm W1 Z room ((false, b, S) :: l) W) (hg : Good room n S) (hn : n < 268435400) (p : ByteArray) (hp : p.size ≤ 1048000) (v : Value) (xss : List (List ByteArray)) (hr : ReadsLL W W.heap.size v xss) (hx : xss.length ≤ maxLen) (hm : ∀ xs ∈ xss, xs.length ≤ maxLen ∧ ∀ x ∈ xs, x.size ≤ 1000000) (hb : Mod (rawLL xss)) :
    Calls Tryz.prog 18 #[.pointer (some ⟨b, 0, none⟩), .string p, v] W fun r w' => r = .returned (.int .i64 (jAnew room S p.data.toList (rawLL xss)).1) ∧ Bx w pb bt bm W1 Z room ((false, b, (jAnew room S p.data.toList (rawLL xss)).2) :: l) w' :=
  (h.1.janew hg hn p hp v xss hr hx hm hb).mono fun _ _ k => ⟨k.1, k.2, h.2⟩
/-- What Open, or Read, leaves, in the box. -/
def BxPost (w : World) (pb bt bm : Nat) (W1 : World) (Z : Nat → Prop) (room : Int) (l : List Ent) (ls : LL) (u : Value) (r : Ending) (w' : World) : Prop :=
  ∃ o c w5 Z5, r = .returned (.tuple #[.slice o ls.length c, u]) ∧ ReadsFF (fun n => ¬ Z5 n) w5 (.slice o ls.length c) (LLtxt ls) ∧ Bx w pb bt bm w5 Z5 room l w' ∧ Turned Z W1 w5 ∧ ∀ n, Z5 n → Z n
theorem Bx.jopen (h : Bx w pb bt bm W1 Z room ((false, b, S) :: l) W) (hg : Good room n S) (hn : n < 268435300) (p : ByteArray) (hp : p.size ≤ 1048000) (ht : ∀ q, (textOf S.now q).length ≤ 1000000) :
    Calls Tryz.prog 15 #[.pointer (some ⟨b, 0, none⟩), .string p] W (BxPost w pb bt bm W1 Z room ((false, b, (jOpen room S p.data.toList).2.2) :: l) (jOpen room S p.data.toList).1 (.int .i64 (jOpen room S p.data.toList).2.1)) :=
  (h.1.jopen hg hn p hp ht).mono fun _ _ ⟨o, c, w5, Z5, k1, k2, k3, k4, k5⟩ => ⟨o, c, w5, Z5, k1, k2, h.rebox k4 k5 k3, k4, k5⟩
theorem Bx.jread (h : Bx w pb bt bm W1 Z room ((false, b, S) :: l) W) (p : ByteArray) (hp : p.size ≤ 1048576) (ht : (textOf S.now p.data.toList).length ≤ 1000000) :
    Calls Tryz.prog 26 #[.pointer (some ⟨b, 0, none⟩), .string p] W (BxPost w pb bt bm W1 Z room ((false, b, S) :: l) (listsOf (textOf S.now p.data.toList)) (.bool (wholeB (textOf S.now p.data.toList)))) :=
  (h.1.jread p hp ht).mono fun _ w' ⟨o, c, k1, k2, k3⟩ => by
    obtain ⟨Z5, q1, q2, q3, q4⟩ := TreeS.same W h.1 k3
    exact ⟨o, c, w', Z5, k1, k2.wider (fun n hn hlt => q4 n hn hlt), h.rebox q2 q3 q1, q2, q3⟩
end
/-- What reads apart from the box reads so behind what is done in it. -/
theorem Bx.reads {w w5 W : World} {pb bt bm : Nat} {Z5 : Nat → Prop} {room : Int} {l : List Ent} {v : Value} {xss : List (List ByteArray)} (h : Bx w pb bt bm w5 Z5 room l W) (hr : ReadsFF (fun n => ¬ Z5 n) w5 v xss) : ReadsFF (fun n => ¬ Z5 n) W v xss :=
  hr.kept h.1.1 fun _ hn _ hz => hn hz
theorem ReadsFF.rebox {w5 w6 : World} {Z5 Z6 : Nat → Prop} {v : Value} {xss : List (List ByteArray)} (hr : ReadsFF (fun n => ¬ Z5 n) w5 v xss) (hT : Turned Z5 w5 w6) (hz : ∀ n, Z6 n → Z5 n) : ReadsFF (fun n => ¬ Z6 n) w6 v xss :=
  (hr.kept hT fun _ hn _ hz => hn hz).wider fun n hn _ h6 => hn (hz n h6)
theorem lltxt_ok {ls : LL} (h : ls.length ≤ maxLen) (hf : ∀ x ∈ ls, Fit x) : (LLtxt ls).length ≤ maxLen ∧ ∀ xs ∈ LLtxt ls, xs.length ≤ maxLen :=
  ⟨by unfold LLtxt; rw [List.length_map]; exact h, fun xs hx => (fits_ok hf xs hx).1⟩
theorem lltxt_inj {a b : LL} : LLtxt a = LLtxt b ↔ a = b := ⟨fun h => by rw [← raw_txt a, h, raw_txt], fun h => by rw [h]⟩
theorem jAdd_eq {room : Int} {S : St} {p : BS} {x : List BS} (hp : pathB (besideL p) = true) (hf : Fit x) : jAdd room S p x = opA room S p (lineOf x) := by
  unfold jAdd
  rw [if_pos hp, if_pos (lineC_fit hf)]

end Go.Proofs.YtgnappifekacpaaGreatDoor
