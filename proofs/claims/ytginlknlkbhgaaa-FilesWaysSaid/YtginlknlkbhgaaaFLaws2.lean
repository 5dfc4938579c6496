/-
  The trees in a box of the call's own; what came since, kept. As FLaws has it, with any base; FLaws' own.
-/
import Derived.Deep.RegionHeld3
import Derived.Deep.QuietTactic
import Derived.BigQuiet
import Derived.Test.YtginlknlkbhgaaaFShown
namespace Go.Proofs.Ytginlknlkbhgaaa
open Go.RowKit Go.Shelf Go.Maps

theorem Begun.behind {w W w1 : World} {bt bm : Nat} {room : Int} (hb : Below w.heap.size w W) (h : Begun W bt bm room w1) : Begun w bt bm room w1 := by
  obtain ⟨X, Y, h1, h2, h3, h4, h5, h6⟩ := h
  have := hb.size
  exact ⟨X, Y, h1, h2, h3, fun n hn => by have := h4 n hn; omega, fun n hn => by have := h5 n hn; omega, hb.trans (h6.mono this)⟩

/-- The cells of an act in a row. -/
def ActCells (W : World) (b f : Nat) (k : Nat) (a : ActV) : Prop :=
  W.cell? ⟨b, f + k * 5, none⟩ = some (.int .i64 a.op) ∧ W.cell? ⟨b, f + k * 5 + 1, none⟩ = some (.int .i64 a.n) ∧ W.cell? ⟨b, f + k * 5 + 2, none⟩ = some (.int .i64 a.m) ∧ W.cell? ⟨b, f + k * 5 + 3, none⟩ = some (.string a.path) ∧ W.cell? ⟨b, f + k * 5 + 4, none⟩ = some (.string a.text)
theorem acts_at {w : World} {o : Option Addr} {n c : Nat} {al : List ActV} (h : ActsO w w.heap.size (.slice o n c) al) {k : Nat} {a : ActV} (hk : al[k]? = some a) :
    ∃ b f, o = some ⟨b, f, none⟩ ∧ k < c ∧ ∀ W, Below w.heap.size w W → ActCells W b f k a := by
  obtain ⟨o', c', hv, hx⟩ := id h
  cases hv
  have hkl := (List.getElem?_eq_some_iff.1 hk).1
  obtain ⟨b, f, h1, h2, h3, _⟩ := hx k a hk
  refine ⟨b, f, h1, by omega, fun W hb => ?_⟩
  obtain ⟨o2, c2, hv2, hx2⟩ := h.below hb (Nat.le_refl _)
  cases hv2
  obtain ⟨b', f', q1, q2, q3, q4⟩ := hx2 k a hk
  rw [h1] at q1
  cases q1
  exact ⟨q4 0 (by omega), q4 1 (by omega), q4 2 (by omega), q4 3 (by omega), q4 4 (by omega)⟩

theorem small_at {w : World} {o : Option Addr} {n c : Nat} {al : List ActV} (h : ActsO w w.heap.size (.slice o n c) al) (hn : al.length ≤ maxLen) (hw : ∀ a ∈ al, ActW a) (W : World) (hb : Below w.heap.size w W) :
    Calls Try.prog 12 #[.slice o n c] W fun e w' => e = .returned (.bool (smallB al)) ∧ W = w' :=
  small_any _ al w.heap.size W (h.below hb (Nat.le_refl _)) hn hw
theorem shown_at (w W : World) (hb : Below w.heap.size w W) : Calls Try.prog 11 #[] W fun e w' => e = .returned (.bool true) ∧ Below w.heap.size w w' :=
  (shown_any W).mono fun _ _ h => ⟨h.1, hb.trans (h.2.mono hb.size)⟩
theorem begun_at (room : Int) (h0 : 1 ≤ room) (h1 : room ≤ 1073741824) (w W : World) (hb : Below w.heap.size w W) :
    Calls Try.prog 13 #[.int .i64 room] W fun e w1 => ∃ bt bm, e = .returned (.tuple #[.agg #[.pointer (some ⟨bt, 0, none⟩), .pointer (some ⟨bm, 0, none⟩)], .bool true]) ∧ Box w w1 bt bm room [(false, bt, (0, [], [], [])), (true, bm, (0, [], [], []))] (pairW w1 bt bm) :=
  (begun_ok room h0 h1 W).mono fun _ _ ⟨bt, bm, h2, h3⟩ => ⟨bt, bm, h2, began (h3.behind hb)⟩

/-! ### what is done, in the box -/
section
variable {w w1 W : World} {bt bm b c : Nat} {room : Int} {l : List Ent} {n : Nat} {S T : St}
theorem Box.tail {e : Ent} (h : Box w w1 bt bm room (e :: l) W) : Box w w1 bt bm room l W := ⟨h.1.tail, h.2⟩
theorem Box.swap {e f : Ent} (h : Box w w1 bt bm room (e :: f :: l) W) : Box w w1 bt bm room (f :: e :: l) W := ⟨h.1.swap, h.2⟩
theorem Box.third {e f g : Ent} (h : Box w w1 bt bm room (e :: f :: g :: l) W) : Box w w1 bt bm room (g :: e :: f :: l) W := ⟨h.1.third, h.2⟩
theorem Box.clone (h : Box w w1 bt bm room ((false, b, S) :: l) W) (hg : Good room n S) (hn : n < 268435456) :
    Calls Try.prog 14 #[.pointer (some ⟨b, 0, none⟩)] W fun r w' => ∃ c, r = .returned (.pointer (some ⟨c, 0, none⟩)) ∧ Box w w1 bt bm room ((false, c, S) :: (false, b, S) :: l) w' :=
  (h.1.clone hg hn).mono fun _ _ ⟨c, k1, k2⟩ => ⟨c, k1, k2, h.2⟩
theorem Box.write (h : Box w w1 bt bm room ((false, b, S) :: l) W) (hg : Good room n S) (hn : n < 268435456) (p s : ByteArray) (hp : p.size ≤ 1048576) (hs : s.size ≤ 1048576) :
    Calls Try.prog 15 #[.pointer (some ⟨b, 0, none⟩), .string p, .string s] W fun r w' => r = .returned (.int .i64 (opW room S p.data.toList s.data.toList).1) ∧ Box w w1 bt bm room ((false, b, (opW room S p.data.toList s.data.toList).2) :: l) w' :=
  (h.1.write hg hn p s hp hs).mono fun _ _ k => ⟨k.1, k.2, h.2⟩
theorem Box.append (h : Box w w1 bt bm room ((false, b, S) :: l) W) (hg : Good room n S) (hn : n < 268435456) (p s : ByteArray) (hp : p.size ≤ 1048576) (hs : s.size ≤ 1048576) :
    Calls Try.prog 29 #[.pointer (some ⟨b, 0, none⟩), .string p, .string s] W fun r w' => r = .returned (.int .i64 (opA room S p.data.toList s.data.toList).1) ∧ Box w w1 bt bm room ((false, b, (opA room S p.data.toList s.data.toList).2) :: l) w' :=
  (h.1.append hg hn p s hp hs).mono fun _ _ k => ⟨k.1, k.2, h.2⟩
theorem Box.remove (h : Box w w1 bt bm room ((false, b, S) :: l) W) (hg : Good room n S) (hn : n < 268435456) (p : ByteArray) (hp : p.size ≤ 1048576) :
    Calls Try.prog 21 #[.pointer (some ⟨b, 0, none⟩), .string p] W fun r w' => r = .returned (.int .i64 (opR S p.data.toList).1) ∧ Box w w1 bt bm room ((false, b, (opR S p.data.toList).2) :: l) w' :=
  (h.1.remove hg hn p hp).mono fun _ _ k => ⟨k.1, k.2, h.2⟩
theorem Box.rename (h : Box w w1 bt bm room ((false, b, S) :: l) W) (hg : Good room n S) (hn : n < 268435456) (p q : ByteArray) (hp : p.size ≤ 1048576) (hq : q.size ≤ 1048576) :
    Calls Try.prog 23 #[.pointer (some ⟨b, 0, none⟩), .string p, .string q] W fun r w' => r = .returned (.int .i64 (opN S p.data.toList q.data.toList).1) ∧ Box w w1 bt bm room ((false, b, (opN S p.data.toList q.data.toList).2) :: l) w' :=
  (h.1.rename hg hn p q hp hq).mono fun _ _ k => ⟨k.1, k.2, h.2⟩
theorem Box.sync (h : Box w w1 bt bm room ((false, b, S) :: l) W) (hg : Good room n S) :
    Calls Try.prog 22 #[.pointer (some ⟨b, 0, none⟩)] W fun r w' => r = .returned (.tuple #[]) ∧ Box w w1 bt bm room ((false, b, opS S) :: l) w' :=
  (h.1.sync hg).mono fun _ _ k => ⟨k.1, k.2, h.2⟩
theorem Box.crash (h : Box w w1 bt bm room ((false, b, S) :: l) W) (hg : Good room n S) (many part : Int) (hp : part < 9223372036854775808) :
    Calls Try.prog 16 #[.pointer (some ⟨b, 0, none⟩), .int .i64 many, .int .i64 part] W fun r w' => r = .returned (.tuple #[]) ∧ Box w w1 bt bm room ((false, b, opC S many part) :: l) w' :=
  (h.1.crash hg many part hp).mono fun _ _ k => ⟨k.1, k.2, h.2⟩
theorem Box.files (h : Box w w1 bt bm room ((false, b, S) :: l) W) (hg : Good room n S) (hn : n < 268435456) :
    Calls Try.prog 26 #[.pointer (some ⟨b, 0, none⟩)] W fun r w' => ∃ o c, r = .returned (.slice o (filesOf S.now).length c) ∧ RowA w' (fun n => W.heap.size ≤ n) (.slice o (filesOf S.now).length c) (filesOf S.now) ∧ Below W.heap.size W w' ∧ Box w w1 bt bm room ((false, b, S) :: l) w' :=
  (h.1.files hg hn).mono fun _ _ ⟨o, c, k1, k2, k3⟩ => ⟨o, c, k1, k2, k3, h.below k3⟩
theorem Box.read (h : Box w w1 bt bm room ((false, b, S) :: l) W) (p : ByteArray) (hp : p.size ≤ 1048576) :
    Calls Try.prog 19 #[.pointer (some ⟨b, 0, none⟩), .string p] W fun r w' => r = .returned (.tuple #[.string (txt (opRead S p.data.toList).1), .int .i64 (opRead S p.data.toList).2]) ∧ Box w w1 bt bm room ((false, b, S) :: l) w' := by
  obtain ⟨X, hX⟩ := h.1.look
  exact (read_tree b X p room S W hX hp).mono fun _ _ k => ⟨k.1, h.below k.2⟩
theorem Box.stat (h : Box w w1 bt bm room ((false, b, S) :: l) W) (p : ByteArray) (hp : p.size ≤ 1048576) :
    Calls Try.prog 28 #[.pointer (some ⟨b, 0, none⟩), .string p] W fun r w' => r = .returned (.tuple #[.agg #[.int .i64 (opStat S p.data.toList).1, .int .i64 (opStat S p.data.toList).2.1], .int .i64 (opStat S p.data.toList).2.2]) ∧ Box w w1 bt bm room ((false, b, S) :: l) w' := by
  obtain ⟨X, hX⟩ := h.1.look
  exact (stat_tree b X p room S W hX hp).mono fun _ _ k => ⟨k.1, h.below k.2⟩
theorem Box.pending (h : Box w w1 bt bm room ((false, b, S) :: l) W) :
    Calls Try.prog 24 #[.pointer (some ⟨b, 0, none⟩)] W fun r w' => r = .returned (.int .i64 (S.pend.length : Nat)) ∧ W = w' := by
  obtain ⟨X, hX⟩ := h.1.look
  exact pending_tree b X room S W hX
theorem Box.used (h : Box w w1 bt bm room ((false, b, S) :: l) W) (hg : Good room n S) (hn : n < 268435456) :
    Calls Try.prog 30 #[.pointer (some ⟨b, 0, none⟩)] W fun r w' => r = .returned (.int .i64 (Proofs.Ytginlknlkbhgaaa.used S.now : Nat)) ∧ Box w w1 bt bm room ((false, b, S) :: l) w' := by
  obtain ⟨X, hX⟩ := h.1.look
  exact (used_tree b X room S W hX (hg.ok (by omega))).mono fun _ _ k => ⟨k.1, h.below k.2⟩
theorem Box.readR (h : Box w w1 bt bm room ((true, b, S) :: l) W) (hg : Good room n S) (p : ByteArray) :
    Calls Try.prog 20 #[.pointer (some ⟨b, 0, none⟩), .string p] W fun r w' => r = .returned (.tuple #[.string (txt (opRead S p.data.toList).1), .int .i64 (opRead S p.data.toList).2]) ∧ W = w' := by
  obtain ⟨X, hX⟩ := h.1.lookR
  exact rRead_good b X p room n S W hX hg
theorem Box.does (h : Box w w1 bt bm room ((false, b, S) :: (true, c, S) :: l) W) (hg : Good room n S) (hn : n < 268435456) (a : ActV) (ha : ActOk a) :
    Calls Try.prog 17 #[.agg #[.pointer (some ⟨b, 0, none⟩), .pointer (some ⟨c, 0, none⟩)], .agg (actCells a).toArray] W fun r w' => r = .returned (.bool true) ∧ Box w w1 bt bm room ((false, b, actS room S a) :: (true, c, actS room S a) :: l) w' :=
  (h.1.two (Q := fun r => r = .returned (.bool true)) fun X Y hX hY hd => does_any X Y b c room n S a W hX hY hd hg hn ha).mono fun _ _ k => ⟨k.1, k.2, h.2⟩
theorem Box.alike (h : Box w w1 bt bm room ((false, b, S) :: (true, c, S) :: l) W) (hg : Good room n S) (hn : n < 268435456) :
    Calls Try.prog 18 #[.agg #[.pointer (some ⟨b, 0, none⟩), .pointer (some ⟨c, 0, none⟩)]] W fun r w' => r = .returned (.bool true) ∧ Box w w1 bt bm room ((false, b, S) :: (true, c, S) :: l) w' := by
  obtain ⟨X, hX⟩ := h.1.look
  obtain ⟨Y, hY⟩ := h.1.tail.lookR
  exact (alike_any X Y b c room n S W hX hY hg hn).mono fun _ _ k => ⟨k.1, h.below k.2⟩
end


/-- The trees of l, apart, and the box with the first two; since W1 nothing outside Z has turned. -/
def Bx (w : World) (pb bt bm : Nat) (W1 : World) (Z : Nat → Prop) (room : Int) (l : List Ent) (W : World) : Prop :=
  At W1 Z room l W ∧ (W1.heap[pb]? = some (.cells #[.pointer (some ⟨bt, 0, none⟩), .pointer (some ⟨bm, 0, none⟩)] 28 (0, 0)) ∧ ¬ Z pb ∧ Below w.heap.size w W1 ∧ ∀ n, Z n → w.heap.size ≤ n)
theorem Box.bx {w w1 W : World} {bt bm : Nat} {room : Int} {l : List Ent} (h : Box w w1 bt bm room l W) : Bx w w1.heap.size bt bm (pairW w1 bt bm) (ZB w w1) room l W :=
  ⟨h.1, World.alloc_heap_new w1 _, fun hn => hn.2 rfl, h.2, fun _ hn => hn.1⟩
theorem bxAt {w W1 W : World} {pb bt bm : Nat} {Z : Nat → Prop} {room : Int} {l : List Ent} (h : Bx w pb bt bm W1 Z room l W) : W.cell? ⟨pb, 0, none⟩ = some (.pointer (some ⟨bt, 0, none⟩)) ∧ W.cell? ⟨pb, 1, none⟩ = some (.pointer (some ⟨bm, 0, none⟩)) := by
  have hx := h.1.cells h.2.1 h.2.2.1
  exact ⟨by rw [Lib.cell_of_heap hx]; rfl, by rw [Lib.cell_of_heap hx]; rfl⟩
theorem bxBack {w W1 W : World} {pb bt bm : Nat} {Z : Nat → Prop} {room : Int} {l : List Ent} (h : Bx w pb bt bm W1 Z room l W) : Below w.heap.size w W := h.1.to h.2.2.2.1 h.2.2.2.2
theorem Bx.below {w W1 W W' : World} {pb bt bm : Nat} {Z : Nat → Prop} {room : Int} {l : List Ent} (h : Bx w pb bt bm W1 Z room l W) (hb : Below W.heap.size W W') : Bx w pb bt bm W1 Z room l W' := ⟨h.1.below hb, h.2⟩
/-- Nothing that came from lo on, up to w5, is of Z5. -/
def Kp (lo : Nat) (w5 : World) (Z5 : Nat → Prop) : Prop := ∀ n, lo ≤ n → n < w5.heap.size → ¬ Z5 n
theorem Bx.prot {w W1 W w5 : World} {pb bt bm : Nat} {Z : Nat → Prop} {room : Int} {l : List Ent} (h : Bx w pb bt bm W1 Z room l W) (hb : Below W.heap.size W w5) :
    ∃ Z5, Bx w pb bt bm w5 Z5 room l w5 ∧ Kp W.heap.size w5 Z5 ∧ ∀ n, Z5 n → Z n := by
  have hpb : pb < W.heap.size := (Array.getElem?_eq_some_iff.1 (h.1.cells h.2.1 h.2.2.1)).1
  refine ⟨fun n => Z n ∧ ¬ (W.heap.size ≤ n ∧ n < w5.heap.size), ⟨h.1.since hb, (hb.block pb hpb).trans (h.1.cells h.2.1 h.2.2.1), fun hz => h.2.2.1 hz.1, (bxBack h).trans (hb.mono (bxBack h).size), fun n hn => h.2.2.2.2 n hn.1⟩, fun n h1 h2 hz => hz.2 ⟨h1, h2⟩, fun n hn => hn.1⟩
theorem Bx.rebase {w W1 w5 W : World} {pb bt bm : Nat} {Z Z5 : Nat → Prop} {room : Int} {l l' : List Ent} (h : Bx w pb bt bm W1 Z room l' w5) (h5 : Bx w pb bt bm w5 Z5 room l W) (hz : ∀ n, Z5 n → Z n) : Bx w pb bt bm W1 Z room l W :=
  ⟨⟨h.1.1.trans (h5.1.1.wider hz), fun n hn => hz n (h5.1.2.1 n hn), h5.1.2.2.wider hz⟩, h.2⟩
theorem Bx.kcell {w w5 W : World} {pb bt bm lo : Nat} {Z5 : Nat → Prop} {room : Int} {l : List Ent} (h : Bx w pb bt bm w5 Z5 room l W) (hk : Kp lo w5 Z5) {b : Nat} {cs : Array Value} {t : TypeId} {fz : Nat × Nat} (hx : w5.heap[b]? = some (.cells cs t fz)) (hlo : lo ≤ b) : W.heap[b]? = some (.cells cs t fz) :=
  h.1.cells hx (hk b hlo (Array.getElem?_eq_some_iff.1 hx).1)
theorem Bx.krow {w w5 W : World} {pb bt bm lo : Nat} {Z5 : Nat → Prop} {room : Int} {l : List Ent} (h : Bx w pb bt bm w5 Z5 room l W) (hk : Kp lo w5 Z5) {P : Nat → Prop} {v : Value} {al : List AF} (hr : RowA w5 P v al) (hP : ∀ n, P n → lo ≤ n) : RowA W (fun n => P n ∧ n < w5.heap.size) v al :=
  RowR.kept (RowR.tight hr) h.1.1 (fun n hn => hk n (hP n hn.1) hn.2)

/-! ### what is done, in the box -/
section
variable {w W1 W : World} {pb bt bm b c : Nat} {Z : Nat → Prop} {room : Int} {l : List Ent} {n : Nat} {S T : St}
theorem Bx.tail {e : Ent} (h : Bx w pb bt bm W1 Z room (e :: l) W) : Bx w pb bt bm W1 Z room l W := ⟨h.1.tail, h.2⟩
theorem Bx.swap {e f : Ent} (h : Bx w pb bt bm W1 Z room (e :: f :: l) W) : Bx w pb bt bm W1 Z room (f :: e :: l) W := ⟨h.1.swap, h.2⟩
theorem Bx.third {e f g : Ent} (h : Bx w pb bt bm W1 Z room (e :: f :: g :: l) W) : Bx w pb bt bm W1 Z room (g :: e :: f :: l) W := ⟨h.1.third, h.2⟩
theorem Bx.clone (h : Bx w pb bt bm W1 Z room ((false, b, S) :: l) W) (hg : Good room n S) (hn : n < 268435456) :
    Calls Try.prog 14 #[.pointer (some ⟨b, 0, none⟩)] W fun r w' => ∃ c, r = .returned (.pointer (some ⟨c, 0, none⟩)) ∧ Bx w pb bt bm W1 Z room ((false, c, S) :: (false, b, S) :: l) w' :=
  (h.1.clone hg hn).mono fun _ _ ⟨c, k1, k2⟩ => ⟨c, k1, k2, h.2⟩
theorem Bx.write (h : Bx w pb bt bm W1 Z room ((false, b, S) :: l) W) (hg : Good room n S) (hn : n < 268435456) (p s : ByteArray) (hp : p.size ≤ 1048576) (hs : s.size ≤ 1048576) :
    Calls Try.prog 15 #[.pointer (some ⟨b, 0, none⟩), .string p, .string s] W fun r w' => r = .returned (.int .i64 (opW room S p.data.toList s.data.toList).1) ∧ Bx w pb bt bm W1 Z room ((false, b, (opW room S p.data.toList s.data.toList).2) :: l) w' :=
  (h.1.write hg hn p s hp hs).mono fun _ _ k => ⟨k.1, k.2, h.2⟩
theorem Bx.append (h : Bx w pb bt bm W1 Z room ((false, b, S) :: l) W) (hg : Good room n S) (hn : n < 268435456) (p s : ByteArray) (hp : p.size ≤ 1048576) (hs : s.size ≤ 1048576) :
    Calls Try.prog 29 #[.pointer (some ⟨b, 0, none⟩), .string p, .string s] W fun r w' => r = .returned (.int .i64 (opA room S p.data.toList s.data.toList).1) ∧ Bx w pb bt bm W1 Z room ((false, b, (opA room S p.data.toList s.data.toList).2) :: l) w' :=
  (h.1.append hg hn p s hp hs).mono fun _ _ k => ⟨k.1, k.2, h.2⟩
theorem Bx.remove (h : Bx w pb bt bm W1 Z room ((false, b, S) :: l) W) (hg : Good room n S) (hn : n < 268435456) (p : ByteArray) (hp : p.size ≤ 1048576) :
    Calls Try.prog 21 #[.pointer (some ⟨b, 0, none⟩), .string p] W fun r w' => r = .returned (.int .i64 (opR S p.data.toList).1) ∧ Bx w pb bt bm W1 Z room ((false, b, (opR S p.data.toList).2) :: l) w' :=
  (h.1.remove hg hn p hp).mono fun _ _ k => ⟨k.1, k.2, h.2⟩
theorem Bx.rename (h : Bx w pb bt bm W1 Z room ((false, b, S) :: l) W) (hg : Good room n S) (hn : n < 268435456) (p q : ByteArray) (hp : p.size ≤ 1048576) (hq : q.size ≤ 1048576) :
    Calls Try.prog 23 #[.pointer (some ⟨b, 0, none⟩), .string p, .string q] W fun r w' => r = .returned (.int .i64 (opN S p.data.toList q.data.toList).1) ∧ Bx w pb bt bm W1 Z room ((false, b, (opN S p.data.toList q.data.toList).2) :: l) w' :=
  (h.1.rename hg hn p q hp hq).mono fun _ _ k => ⟨k.1, k.2, h.2⟩
theorem Bx.sync (h : Bx w pb bt bm W1 Z room ((false, b, S) :: l) W) (hg : Good room n S) :
    Calls Try.prog 22 #[.pointer (some ⟨b, 0, none⟩)] W fun r w' => r = .returned (.tuple #[]) ∧ Bx w pb bt bm W1 Z room ((false, b, opS S) :: l) w' :=
  (h.1.sync hg).mono fun _ _ k => ⟨k.1, k.2, h.2⟩
theorem Bx.crash (h : Bx w pb bt bm W1 Z room ((false, b, S) :: l) W) (hg : Good room n S) (many part : Int) (hp : part < 9223372036854775808) :
    Calls Try.prog 16 #[.pointer (some ⟨b, 0, none⟩), .int .i64 many, .int .i64 part] W fun r w' => r = .returned (.tuple #[]) ∧ Bx w pb bt bm W1 Z room ((false, b, opC S many part) :: l) w' :=
  (h.1.crash hg many part hp).mono fun _ _ k => ⟨k.1, k.2, h.2⟩
theorem Bx.files (h : Bx w pb bt bm W1 Z room ((false, b, S) :: l) W) (hg : Good room n S) (hn : n < 268435456) :
    Calls Try.prog 26 #[.pointer (some ⟨b, 0, none⟩)] W fun r w' => ∃ o c, r = .returned (.slice o (filesOf S.now).length c) ∧ RowA w' (fun n => W.heap.size ≤ n) (.slice o (filesOf S.now).length c) (filesOf S.now) ∧ Below W.heap.size W w' ∧ Bx w pb bt bm W1 Z room ((false, b, S) :: l) w' :=
  (h.1.files hg hn).mono fun _ _ ⟨o, c, k1, k2, k3⟩ => ⟨o, c, k1, k2, k3, Bx.below h k3⟩
theorem Bx.read (h : Bx w pb bt bm W1 Z room ((false, b, S) :: l) W) (p : ByteArray) (hp : p.size ≤ 1048576) :
    Calls Try.prog 19 #[.pointer (some ⟨b, 0, none⟩), .string p] W fun r w' => r = .returned (.tuple #[.string (txt (opRead S p.data.toList).1), .int .i64 (opRead S p.data.toList).2]) ∧ Bx w pb bt bm W1 Z room ((false, b, S) :: l) w' := by
  obtain ⟨X, hX⟩ := h.1.look
  exact (read_tree b X p room S W hX hp).mono fun _ _ k => ⟨k.1, Bx.below h k.2⟩
theorem Bx.stat (h : Bx w pb bt bm W1 Z room ((false, b, S) :: l) W) (p : ByteArray) (hp : p.size ≤ 1048576) :
    Calls Try.prog 28 #[.pointer (some ⟨b, 0, none⟩), .string p] W fun r w' => r = .returned (.tuple #[.agg #[.int .i64 (opStat S p.data.toList).1, .int .i64 (opStat S p.data.toList).2.1], .int .i64 (opStat S p.data.toList).2.2]) ∧ Bx w pb bt bm W1 Z room ((false, b, S) :: l) w' := by
  obtain ⟨X, hX⟩ := h.1.look
  exact (stat_tree b X p room S W hX hp).mono fun _ _ k => ⟨k.1, Bx.below h k.2⟩
theorem Bx.pending (h : Bx w pb bt bm W1 Z room ((false, b, S) :: l) W) :
    Calls Try.prog 24 #[.pointer (some ⟨b, 0, none⟩)] W fun r w' => r = .returned (.int .i64 (S.pend.length : Nat)) ∧ W = w' := by
  obtain ⟨X, hX⟩ := h.1.look
  exact pending_tree b X room S W hX
theorem Bx.used (h : Bx w pb bt bm W1 Z room ((false, b, S) :: l) W) (hg : Good room n S) (hn : n < 268435456) :
    Calls Try.prog 30 #[.pointer (some ⟨b, 0, none⟩)] W fun r w' => r = .returned (.int .i64 (Proofs.Ytginlknlkbhgaaa.used S.now : Nat)) ∧ Bx w pb bt bm W1 Z room ((false, b, S) :: l) w' := by
  obtain ⟨X, hX⟩ := h.1.look
  exact (used_tree b X room S W hX (hg.ok (by omega))).mono fun _ _ k => ⟨k.1, Bx.below h k.2⟩
theorem Bx.readR (h : Bx w pb bt bm W1 Z room ((true, b, S) :: l) W) (hg : Good room n S) (p : ByteArray) :
    Calls Try.prog 20 #[.pointer (some ⟨b, 0, none⟩), .string p] W fun r w' => r = .returned (.tuple #[.string (txt (opRead S p.data.toList).1), .int .i64 (opRead S p.data.toList).2]) ∧ W = w' := by
  obtain ⟨X, hX⟩ := h.1.lookR
  exact rRead_good b X p room n S W hX hg
theorem Bx.does (h : Bx w pb bt bm W1 Z room ((false, b, S) :: (true, c, S) :: l) W) (hg : Good room n S) (hn : n < 268435456) (a : ActV) (ha : ActOk a) :
    Calls Try.prog 17 #[.agg #[.pointer (some ⟨b, 0, none⟩), .pointer (some ⟨c, 0, none⟩)], .agg (actCells a).toArray] W fun r w' => r = .returned (.bool true) ∧ Bx w pb bt bm W1 Z room ((false, b, actS room S a) :: (true, c, actS room S a) :: l) w' :=
  (h.1.two (Q := fun r => r = .returned (.bool true)) fun X Y hX hY hd => does_any X Y b c room n S a W hX hY hd hg hn ha).mono fun _ _ k => ⟨k.1, k.2, h.2⟩
theorem Bx.alike (h : Bx w pb bt bm W1 Z room ((false, b, S) :: (true, c, S) :: l) W) (hg : Good room n S) (hn : n < 268435456) :
    Calls Try.prog 18 #[.agg #[.pointer (some ⟨b, 0, none⟩), .pointer (some ⟨c, 0, none⟩)]] W fun r w' => r = .returned (.bool true) ∧ Bx w pb bt bm W1 Z room ((false, b, S) :: (true, c, S) :: l) w' := by
  obtain ⟨X, hX⟩ := h.1.look
  obtain ⟨Y, hY⟩ := h.1.tail.lookR
  exact (alike_any X Y b c room n S W hX hY hg hn).mono fun _ _ k => ⟨k.1, Bx.below h k.2⟩
end

theorem Bx.statB {w W1 W : World} {pb bt bm b : Nat} {Z : Nat → Prop} {room : Int} {l : List Ent} {S : St} (h : Bx w pb bt bm W1 Z room ((false, b, S) :: l) W) (p : ByteArray) (hp : p.size ≤ 1048576) :
    Calls Try.prog 28 #[.pointer (some ⟨b, 0, none⟩), .string p] W fun r w' => r = .returned (.tuple #[.agg #[.int .i64 (opStat S p.data.toList).1, .int .i64 (opStat S p.data.toList).2.1], .int .i64 (opStat S p.data.toList).2.2]) ∧ Below W.heap.size W w' := by
  obtain ⟨X, hX⟩ := h.1.look
  exact stat_tree b X p room S W hX hp

theorem opN_codes (S : St) (p q : BS) : (opN S p q).1 = 0 ∨ (opN S p q).1 = 1 ∨ (opN S p q).1 = 4 ∨ (opN S p q).1 = 5 := by
  unfold opN
  split
  · exact .inr (.inr (.inl rfl))
  · split
    · exact .inr (.inl rfl)
    · split
      · exact .inl rfl
      · split
        · exact .inr (.inr (.inr rfl))
        · exact .inl rfl
theorem opStat_codes (S : St) (p : BS) : (opStat S p).2.2 = 0 ∨ (opStat S p).2.2 = 4 := by
  unfold opStat
  cases look S.now p <;> simp

end Go.Proofs.Ytginlknlkbhgaaa
