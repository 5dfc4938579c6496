/-
  Plain words: a text cut at bytes. No program, no world.
  Plain words, and what the walks of layer 4 share.
  A law for a range over a function, and the contract that it asks of the function that tells: which texts it tells, one after the other, whatever the round does, as long as the round leaves the blocks of a set X as they lay; what the function itself turns lies in X. No condition.
  The same law, with a relation between what is told and the values.
  What the small functions of package text answer, for every byte.
  What between tells: the pieces of a text between the bytes that part.
  What text.Path answers, for every text.
  What the document's own functions digit and plain answer.
  What the document's own Path answers, for every text: the same as the program's.
-/
import Derived.WalkKit
import Derived.Lib.Strings
import Derived.RangeFuncNested
import Derived.RangeFuncBound
import Derived.RangeFuncCalls
import Derived.RangeFuncLeaves
import Derived.Shelf.Abstract
import Derived.Shelf.RegionOpen
import Derived.OwnWalkIn
import Derived.TacticsInMore
import Derived.LoopNIn
import Derived.LoopIn
import Derived.WalkSpells
import Derived.Outline
import Derived.Lib.Hide
import Derived.Deep.QuietTactic
import Derived.BigQuiet
import Derived.Below
import Derived.Lib.Bytealg
import Derived.Maps.AppendAt
import Derived.Deep.Draws
import Derived.IntWalk
import Derived.Test.YtchnbnmajagpjaaGreatDoorProg
namespace Go.Proofs.YtchnbnmajagpjaaGreatDoor

/-- What stands between the bytes of p: one piece more than there are such bytes. -/
def pieces (p : UInt8 → Bool) : List UInt8 → List (List UInt8)
  | [] => [[]]
  | c :: r => if p c then [] :: pieces p r else match pieces p r with
    | h :: t => (c :: h) :: t
    | [] => [[c]]

def txt (l : List UInt8) : ByteArray := ⟨l.toArray⟩
@[simp] theorem txt_data (l : List UInt8) : (txt l).data.toList = l := by simp [txt]
@[simp] theorem txt_size (l : List UInt8) : (txt l).size = l.length := by simp [txt, ByteArray.size]
theorem txt_toList (s : ByteArray) : txt s.data.toList = s := by simp [txt]
theorem txt_toL (l : List UInt8) : (txt l).toList = l := by rw [Lib.toList_data, txt_data]
theorem txt_inj {a b : List UInt8} (h : txt a = txt b) : a = b := by have := congrArg (fun s => s.data.toList) h; simpa using this

theorem pieces_ne (p : UInt8 → Bool) (l : List UInt8) : pieces p l ≠ [] := by
  cases l with
  | nil => simp [pieces]
  | cons c r =>
    simp only [pieces]
    split
    · simp
    · split <;> simp

theorem pieces_none (p : UInt8 → Bool) (l : List UInt8) (h : ∀ c ∈ l, p c = false) : pieces p l = [l] := by
  induction l with
  | nil => rfl
  | cons c r ih => simp [pieces, h c (by simp), ih (fun x hx => h x (by simp [hx]))]

theorem pieces_cut (p : UInt8 → Bool) (a : List UInt8) (c : UInt8) (r : List UInt8) (h : ∀ x ∈ a, p x = false) (hc : p c = true) : pieces p (a ++ c :: r) = a :: pieces p r := by
  induction a with
  | nil => simp [pieces, hc]
  | cons x a ih => simp [pieces, h x (by simp), ih (fun y hy => h y (by simp [hy]))]

theorem cut_at (p : UInt8 → Bool) (l : List UInt8) (a m : Nat) (ham : a ≤ m) (hm : m < l.length) (hno : ∀ c ∈ (l.drop a).take (m - a), p c = false) (hc : p l[m] = true) :
    pieces p (l.drop a) = (l.drop a).take (m - a) :: pieces p (l.drop (m + 1)) := by
  have e : l.drop a = (l.drop a).take (m - a) ++ l[m] :: l.drop (m + 1) := by
    have h1 : (l.drop a).drop (m - a) = l[m] :: l.drop (m + 1) := by
      rw [List.drop_drop, show a + (m - a) = m by omega]; exact List.drop_eq_getElem_cons hm
    rw [← h1, List.take_append_drop]
  have := pieces_cut p _ l[m] (l.drop (m + 1)) hno hc
  rwa [← e] at this
theorem none_next (p : UInt8 → Bool) (l : List UInt8) (a m : Nat) (ham : a ≤ m) (hm : m < l.length) (hno : ∀ c ∈ (l.drop a).take (m - a), p c = false) (hc : p l[m] = false) :
    ∀ c ∈ (l.drop a).take (m + 1 - a), p c = false := by
  intro c h
  have e : (l.drop a).take (m + 1 - a) = (l.drop a).take (m - a) ++ [l[m]] := by
    rw [show m + 1 - a = (m - a) + 1 by omega, List.take_succ_eq_append_getElem (by simp; omega)]
    simp [show a + (m - a) = m by omega]
  rw [e] at h
  rcases List.mem_append.1 h with h | h
  · exact hno c h
  · simp at h; rw [h]; exact hc

theorem take_rest (s : ByteArray) (a : Nat) : (s.data.toList.drop a).take (s.size - a) = s.data.toList.drop a :=
  List.take_of_length_le (by rw [List.length_drop, Array.length_toList]; exact Nat.le_refl _)

theorem extract_txt (s : ByteArray) (a b : Nat) : s.extract a b = txt ((s.data.toList.drop a).take (b - a)) := by
  rw [← txt_toList (s.extract a b), Lib.extract_data]

end Go.Proofs.YtchnbnmajagpjaaGreatDoor

namespace Go.Proofs.YtchnbnmajagpjaaGreatDoor
open Go.RowKit Go.Shelf

theorem size_list (s : ByteArray) : s.data.toList.length = s.size := by rw [Array.length_toList]; rfl
theorem txt_append (a b : List UInt8) : txt a ++ txt b = txt (a ++ b) := by
  rw [← txt_toList (txt a ++ txt b)]; simp [ByteArray.data_append, txt]
theorem extract_one (s : ByteArray) (m : Nat) (h : m < s.size) : s.extract m (m + 1) = txt [s[m]] := by
  have h' : m < s.data.toList.length := by rw [Array.length_toList]; exact h
  rw [extract_txt, List.drop_eq_getElem_cons h', show m + 1 - m = 1 by omega, List.take_succ_cons, List.take_zero, Array.getElem_toList]; rfl
theorem below_drewN {B : Nat} {a w : World} (h : Below B a w) (m : Nat) : Below B a (w.drewN m) := ⟨h.os, h.tape, h.output, h.size, h.block⟩
def LawPost (w : World) (e : Ending) (w' : World) : Prop := e = .returned (.bool true) ∧ Below w.heap.size w w'
theorem below2 {a b c : World} (h1 : Below a.heap.size a b) (h2 : Below b.heap.size b c) : Below a.heap.size a c := h1.trans (h2.mono h1.size)
theorem below3 {a b c d : World} (h1 : Below a.heap.size a b) (h2 : Below b.heap.size b c) (h3 : Below c.heap.size c d) : Below a.heap.size a d := below2 h1 (below2 h2 h3)
theorem nat_bne_t {a b : Nat} (h : a ≠ b) : (((a : Nat) : Int) != (b : Int)) = true := by simp; omega
theorem nat_bne_f {a b : Nat} (h : a = b) : (((a : Nat) : Int) != (b : Int)) = false := by simp; omega
theorem toL_inj {a b : ByteArray} (h : a.toList = b.toList) : a = b := by
  rw [Lib.toList_data, Lib.toList_data] at h
  rw [← txt_toList a, ← txt_toList b, h]
theorem str_eq (a b : ByteArray) : (a.toList == b.toList) = decide (a = b) := by
  rw [Bool.eq_iff_iff]
  simp only [beq_iff_eq, decide_eq_true_eq]
  exact ⟨toL_inj, fun h => by rw [h]⟩
theorem str_ne_f {a b : ByteArray} (h : a = b) : (!a.toList == b.toList) = false := by rw [str_eq]; simp [h]
theorem str_ne_t {a b : ByteArray} (h : a ≠ b) : (!a.toList == b.toList) = true := by rw [str_eq]; simp [h]
def allB (p : UInt8 → Bool) (l : List UInt8) : Bool := l.all p
theorem all_take {p : UInt8 → Bool} {l : List UInt8} {k : Nat} (h : allB p (l.take k) = true) (hk : k < l.length) (hc : p l[k] = true) : allB p (l.take (k + 1)) = true := by
  unfold allB at h ⊢
  rw [List.take_succ_eq_append_getElem hk, List.all_append, h]; simp [hc]
theorem all_not {p : UInt8 → Bool} {l : List UInt8} {k : Nat} (hk : k < l.length) (hc : p l[k] = false) : allB p l = false := by
  unfold allB
  rw [List.all_eq_false]; exact ⟨l[k], List.getElem_mem hk, by simp [hc]⟩
theorem below_drew {B : Nat} {a w : World} (h : Below B a w) : Below B a w.drew := ⟨h.os, h.tape, h.output, h.size, h.block⟩
theorem ownsRow_below {W W' : World} {base : Nat} {e : TypeId} {size : Nat} {v : Value} {n : Nat} {xs : List Value} (ho : W.ownsRow base e size v n xs) (hb : Below W.heap.size W W') : W'.ownsRow base e size v n xs := by
  refine ⟨ho.1, ?_⟩
  rcases ho.2 with hn | ⟨g, cap, cur, rfl, h1, hgg, rest⟩
  · exact .inl hn
  · refine .inr ⟨g, cap, cur, rfl, h1, ?_, rest⟩
    rw [hb.block g (Array.getElem?_eq_some_iff.1 hgg).1]
    exact hgg
theorem still_call {P : Program} {f : FuncId} {args : Array Value} {w : World} {m : Nat} {v : Value} (h : Calls P f args (w.drewN m) fun e w' => e = .returned v ∧ w.drewN m = w') :
    Calls P f args (w.drewN m) fun e w' => e = .returned v ∧ ∃ j, w' = w.drewN j := h.mono fun _ _ h => ⟨h.1, m, h.2.symm⟩

end Go.Proofs.YtchnbnmajagpjaaGreatDoor

namespace Go.Proofs.YtchnbnmajagpjaaGreatDoor
open Go.RowKit

/-- Only blocks of X have turned, and there may be new ones. -/
structure Turned (X : Nat → Prop) (W W' : World) : Prop where
  os : W'.os = W.os
  tape : W'.tape = W.tape
  output : W'.output = W.output
  size : W.heap.size ≤ W'.heap.size
  block : ∀ k, k < W.heap.size → ¬ X k → W'.heap[k]? = W.heap[k]?

/-- The blocks of X lie as they lay. -/
structure Kept (X : Nat → Prop) (W W' : World) : Prop where
  size : W.heap.size ≤ W'.heap.size
  same : ∀ k, X k → k < W.heap.size → W'.heap[k]? = W.heap[k]?

theorem Turned.refl (X : Nat → Prop) (W : World) : Turned X W W := ⟨rfl, rfl, rfl, Nat.le_refl _, fun _ _ _ => rfl⟩
theorem Turned.trans {X : Nat → Prop} {A B C : World} (h : Turned X A B) (k : Turned X B C) : Turned X A C :=
  ⟨k.os.trans h.os, k.tape.trans h.tape, k.output.trans h.output, Nat.le_trans h.size k.size, fun i hi hx => (k.block i (Nat.lt_of_lt_of_le hi h.size) hx).trans (h.block i hi hx)⟩
theorem Turned.wider {X Y : Nat → Prop} {A B : World} (h : Turned X A B) (hxy : ∀ k, X k → Y k) : Turned Y A B :=
  ⟨h.os, h.tape, h.output, h.size, fun i hi hy => h.block i hi (fun hx => hy (hxy i hx))⟩
theorem Turned.alloc (X : Nat → Prop) (W : World) (o : Obj) : Turned X W (W.alloc o) := ⟨rfl, rfl, rfl, by simp, fun k hk _ => Below.heap_alloc W o k hk⟩
theorem Turned.drew (X : Nat → Prop) (W : World) : Turned X W W.drew := ⟨rfl, rfl, rfl, Nat.le_refl _, fun _ _ _ => rfl⟩
theorem Turned.drewN (X : Nat → Prop) (W : World) (m : Nat) : Turned X W (W.drewN m) := ⟨rfl, rfl, rfl, Nat.le_refl _, fun _ _ _ => rfl⟩
theorem Turned.putObj {X : Nat → Prop} (W : World) (l : Nat) (o : Obj) (hl : X l) : Turned X W (W.putObj l o) :=
  ⟨rfl, rfl, rfl, by simp, fun k _ hk => World.putObj_heap_other (fun e => hk (by rw [e]; exact hl))⟩
theorem Turned.setCell {X : Nat → Prop} (W : World) (a : Addr) (v : Value) (hl : X a.block) : Turned X W (W.setCell a v) :=
  ⟨rfl, rfl, rfl, by simp, fun k _ hk => Below.heap_setCell _ _ _ _ (fun e => hk (by rw [e]; exact hl))⟩
theorem Turned.below {X : Nat → Prop} {W W' : World} {B : Nat} (h : Turned X W W') (hB : B ≤ W.heap.size) (hx : ∀ k, X k → B ≤ k) : Below B W W' :=
  ⟨h.os, h.tape, h.output, h.size, fun k hk => h.block k (Nat.lt_of_lt_of_le hk hB) (fun e => by have := hx k e; omega)⟩

theorem Kept.refl (X : Nat → Prop) (W : World) : Kept X W W := ⟨Nat.le_refl _, fun _ _ _ => rfl⟩
theorem Kept.trans {X : Nat → Prop} {A B C : World} (h : Kept X A B) (k : Kept X B C) : Kept X A C :=
  ⟨Nat.le_trans h.size k.size, fun i hx hi => (k.same i hx (Nat.lt_of_lt_of_le hi h.size)).trans (h.same i hx hi)⟩
theorem Kept.sub {X Y : Nat → Prop} {A B : World} (h : Kept Y A B) (hxy : ∀ k, X k → Y k) : Kept X A B := ⟨h.size, fun k hx => h.same k (hxy k hx)⟩
theorem Kept.alloc (X : Nat → Prop) (W : World) (o : Obj) : Kept X W (W.alloc o) := ⟨by simp, fun k _ hk => Below.heap_alloc W o k hk⟩
theorem Kept.drew (X : Nat → Prop) (W : World) : Kept X W W.drew := ⟨Nat.le_refl _, fun _ _ _ => rfl⟩
theorem Kept.drewN (X : Nat → Prop) (W : World) (m : Nat) : Kept X W (W.drewN m) := ⟨Nat.le_refl _, fun _ _ _ => rfl⟩
theorem Kept.putObj {X : Nat → Prop} (W : World) (l : Nat) (o : Obj) (hl : ¬ X l) : Kept X W (W.putObj l o) :=
  ⟨by simp, fun k hk _ => World.putObj_heap_other (fun e => hl (by rw [← e]; exact hk))⟩
theorem Kept.setCell {X : Nat → Prop} (W : World) (a : Addr) (v : Value) (hl : ¬ X a.block) : Kept X W (W.setCell a v) :=
  ⟨by simp, fun k hk _ => Below.heap_setCell _ _ _ _ (fun e => hl (by rw [← e]; exact hk))⟩
theorem Kept.grown {X : Nat → Prop} {W W' : World} {row : Option Nat} (hg : W.grownBy W' row) (hr : ∀ r, row = some r → ¬ X r) : Kept X W W' :=
  ⟨hg.size, fun k hk hlt => hg.block k hlt (fun e => hr k e.symm hk)⟩
theorem Kept.heap {X : Nat → Prop} {W W' : World} (h : Kept X W W') {k : Nat} {o : Obj} (hk : W.heap[k]? = some o) (hx : X k) : W'.heap[k]? = some o :=
  (h.same k hx (Array.getElem?_eq_some_iff.1 hk).1).trans hk
theorem Kept.boxed {X : Nat → Prop} {W W' : World} (h : Kept X W W') {B : Nat} {t : TypeId} {v : Value} (hb : Boxed W B t v) (hx : X B) : Boxed W' B t v := h.heap hb hx
theorem Turned.boxed {X : Nat → Prop} {W W' : World} (h : Turned X W W') {B : Nat} {t : TypeId} {v : Value} (hb : Boxed W B t v) (hx : ¬ X B) : Boxed W' B t v := (h.block B hb.lt hx).trans hb
theorem Turned.ownsRow {X : Nat → Prop} {W W' : World} (h : Turned X W W') {base : Nat} {e : TypeId} {size : Nat} {v : Value} {n : Nat} {xs : List Value} (ho : W.ownsRow base e size v n xs) (hx : ∀ r, v.ownBlock = some r → ¬ X r) : W'.ownsRow base e size v n xs := by
  refine ⟨ho.1, ?_⟩
  rcases ho.2 with hn | ⟨g, cap, cur, rfl, hb, hgg, rest⟩
  · exact .inl hn
  · refine .inr ⟨g, cap, cur, rfl, hb, ?_, rest⟩
    rw [h.block g (Array.getElem?_eq_some_iff.1 hgg).1 (hx g (by simp [Value.ownBlock]))]
    exact hgg

/-- J abides what turns in X, and what is new may go into X. -/
def Abides' {β : Type} (J : (Nat → Prop) → β → World → Prop) : Prop :=
  ∀ X X' s W W', J X s W → Turned X W W' → (∀ k, X' k → X k ∨ (W.heap.size ≤ k ∧ k < W'.heap.size)) → J X' s W'

theorem Abides'.and {β : Type} {J J' : (Nat → Prop) → β → World → Prop} (h : Abides' J) (h' : Abides' J') : Abides' (fun X s W => J X s W ∧ J' X s W) :=
  fun X X' s W W' hs ht hx => ⟨h X X' s W W' hs.1 ht hx, h' X X' s W W' hs.2 ht hx⟩

/-- The function g (with what it has captured, lb) tells xs, one by one. -/
def Tells {α : Type} (n : Nat) (P : Program) (g : Nat) (lb : Array Value) (encs : α → Array Value) (X0 : Nat → Prop) (xs : List α) (w : World) : Prop :=
  ∀ (l : Nat) (J Jx : (Nat → Prop) → List α → World → Prop) (W : World), Kept X0 w W → Abides' J → Abides' Jx →
    (∀ X pre x W1, J X pre W1 → pre ++ [x] <+: xs → YieldAt Fence.wide (n - 1) P l (encs x) W1 fun e W' => Kept X W1 W' ∧
      ((e = .returned (.bool true) ∧ J X (pre ++ [x]) W') ∨ (e = .returned (.bool false) ∧ Jx X (pre ++ [x]) W'))) →
    J X0 [] W →
    CallsIn Fence.wide n P g (#[.func (.yield l) #[] #[]] ++ lb) W fun e W' => (∃ v, e = .returned v) ∧ ∃ X, (J X xs W' ∨ ∃ pre, pre <+: xs ∧ Jx X pre W')

theorem RoundIn.depth {m m' : Nat} {P : Program} {l : Nat} {f : FuncId} {tmps : Array Value} {assign body : Code} {w : World} {R : Ending → World → Prop}
    (h : RoundIn Fence.wide m P l f tmps assign body w R) : RoundIn Fence.wide m' P l f tmps assign body w R := ⟨h.1, fun c cs _ => h.2 c cs (room_wide _)⟩
theorem RoundIn.within {m m' : Nat} {P : Program} {l : Nat} {f : FuncId} {tmps : Array Value} {assign body : Code} {w : World} {R : Ending → World → Prop} (l' : Nat)
    (h : RoundIn Fence.wide m P l f tmps assign body w R) : RoundIn (Fence.wide.inRound l') m' P l f tmps assign body w R := (RoundIn.depth h : RoundIn Fence.wide m' P l f tmps assign body w R)
theorem YieldAt.depth {m : Nat} (m' : Nat) {P : Program} {l : Nat} {args : Array Value} {W : World} {R : Ending → World → Prop} (h : YieldAt Fence.wide m P l args W R) : YieldAt Fence.wide m' P l args W R :=
  let ⟨fn, tmps, assign, body, hy, hR⟩ := h
  ⟨fn, tmps, assign, body, hy, RoundIn.depth hR⟩

/-- How a round's body may be left. -/
def roundOut {α : Type} (X : Nat → Prop) (I : (Nat → Prop) → List α → World → Prop) (Ix : Code → (Nat → Prop) → List α → World → Prop) (xs : List α) (W : World) : Exit → Act → World → Prop
  | .normal, _, W' => Kept X W W' ∧ I X xs W'
  | .ret, _, W' => Kept X W W' ∧ Ix .ret X xs W'
  | .exit id, _, W' => Kept X W W' ∧ Ix (.exit id) X xs W'
  | .goto t, _, W' => Kept X W W' ∧ Ix (.goto t) X xs W'
  | .panic _, _, _ => False
  | .outgrown, _, _ => False

variable {n : Nat} {P : Program}

theorem wpIn_range {α : Type} {g : Operand} {ps : Array Tmp} {assign body : Code} {Q : Exit → Act → World → Prop} {a : Act} {w : World}
    {gf : Nat} {lb : Array Value} (hg : a.eval g = .func (.func gf) #[] lb) (eg : ∀ args w, (callFunc gf args).run P w = .ok (.enter gf args) w)
    {encs : α → Array Value} {X0 : Nat → Prop} {xs : List α} {w0 : World} (hseq : Tells (n - 1) P gf lb encs X0 xs w0) (hw0 : Kept X0 w0 w) (hX0 : ∀ k, X0 k → k < w.heap.size) (hps : ∀ x, (encs x).size = ps.size)
    (I : (Nat → Prop) → List α → World → Prop) (Ix : Code → (Nat → Prop) → List α → World → Prop) (hI : Abides' I) (hIx : ∀ c, Abides' (Ix c)) (h0 : I X0 [] w) (a₁ : α → Act)
    (hassign : ∀ (l : Nat) (x : α) (W : World) (K : Act → World → Prop), K (a₁ x) W →
      assign.wpIn (Fence.wide.inRound l) (n - 1 - 1) P (Exit.then K (fun _ _ _ => False)) { tmps := (ps.zip (encs x)).foldl (fun t (p, v) => t.setIfInBounds p v) a.tmps, defers := [] } W)
    (hbody : ∀ (l : Nat) (X : Nat → Prop) (pre : List α) (x : α) (W : World), I X pre W → pre ++ [x] <+: xs → body.wpIn (Fence.wide.inRound l) (n - 1 - 1) P (roundOut X I Ix (pre ++ [x]) W) (a₁ x) W)
    (hdone : ∀ (D : Nat) (X : Nat → Prop) (W : World), w.heap.size ≤ D → X D → I X xs W → W.heap[D]? = some (.deferred (some [])) → Q .normal { a with defers := { target := .collected D, args := #[] } :: a.defers } W)
    (hstop : ∀ (D : Nat) (X : Nat → Prop) (c : Code) (pre : List α) (W : World), w.heap.size ≤ D → X D → pre <+: xs → Ix c X pre W → W.heap[D]? = some (.deferred (some [])) → c.wpIn Fence.wide n P Q { a with defers := { target := .collected D, args := #[] } :: a.defers } W) :
    (Code.rangeFunc g ps assign body).wpIn Fence.wide n P Q a w := by
  refine wpIn_rangeFunc ?_
  intro fn hfn
  rw [show Fence.wide.round = none from rfl]
  obtain ⟨r, hr⟩ : ∃ r : LoopState → Option Code → Loop, r = fun st pe => { state := st, pending := pe, fn, tmps := a.tmps, params := ps, assign, body, defers := w.heap.size } := ⟨_, rfl⟩
  obtain ⟨D, hD⟩ : ∃ D, D = w.heap.size := ⟨_, rfl⟩
  obtain ⟨W1, hW1⟩ : ∃ W1, (w.alloc (.deferred (some []))).alloc (.loop (r .ready none)) = W1 := ⟨_, rfl⟩
  have hL1 : W1.heap[D + 1]? = some (.loop (r .ready none)) := by
    rw [← hW1, hD]; have := World.alloc_heap_new (w.alloc (.deferred (some []))) (.loop (r .ready none)); rwa [World.size_alloc] at this
  have hK1 : W1.heap[D]? = some (.deferred (some [])) := by
    rw [← hW1, hD]; exact (Below.heap_alloc _ _ _ (by simp)).trans (World.alloc_heap_new w _)
  have hs1 : W1.heap.size = D + 2 := by rw [← hW1, hD]; simp
  have ht1 : Turned X0 w W1 := by rw [← hW1]; exact (Turned.alloc X0 w _).trans (Turned.alloc X0 _ _)
  have hk1 : Kept X0 w0 W1 := by rw [← hW1]; exact hw0.trans ((Kept.alloc X0 w _).trans (Kept.alloc X0 _ _))
  refine ⟨D + 1, [{ target := .collected D, args := #[] }], W1, { target := .fn (.func gf) lb, args := #[.func (.yield (D + 1)) #[] #[]] }, W1, gf,
    #[.func (.yield (D + 1)) #[] #[]] ++ lb, W1, ?_, ?_, fun _ _ => trivial, ?_, fun h => ?_, ?_⟩
  · rw [← hW1, hr, hD]; exact run_enterLoop_outer _ _ _ _ _
  · simp only [resolve, hg]
    simp [go_sem]
  · simp [invoke, go_sem, eg]
  · cases h
  · refine (hseq (D + 1)
      (fun X pre W => I (fun k => X k ∨ k = D ∨ k = D + 1) pre W ∧ (¬ X D ∧ ¬ X (D + 1)) ∧ W.heap[D + 1]? = some (.loop (r .ready none)) ∧ W.heap[D]? = some (.deferred (some [])))
      (fun X pre W => ∃ c, Ix c (fun k => X k ∨ k = D ∨ k = D + 1) pre W ∧ (¬ X D ∧ ¬ X (D + 1)) ∧ W.heap[D + 1]? = some (.loop (r .done (some c))) ∧ W.heap[D]? = some (.deferred (some [])))
      W1 hk1 ?_ ?_ ?_ ⟨?_, ⟨fun h => ?_, fun h => ?_⟩, hL1, hK1⟩).mono ?_
    · rintro X X' s A B ⟨hi, ⟨hx1, hx2⟩, hl, hd⟩ ht hx
      have hdl := (Array.getElem?_eq_some_iff.1 hd).1
      have hll := (Array.getElem?_eq_some_iff.1 hl).1
      refine ⟨hI _ _ _ _ _ hi (ht.wider fun k h => .inl h) ?_, ⟨fun h => ?_, fun h => ?_⟩, (ht.block _ hll hx2).trans hl, (ht.block _ hdl hx1).trans hd⟩
      · rintro k (h | h | h)
        · rcases hx k h with h | h
          · exact .inl (.inl h)
          · exact .inr h
        · exact .inl (.inr (.inl h))
        · exact .inl (.inr (.inr h))
      · rcases hx _ h with h | h
        · exact hx1 h
        · omega
      · rcases hx _ h with h | h
        · exact hx2 h
        · omega
    · rintro X X' s A B ⟨c, hi, ⟨hx1, hx2⟩, hl, hd⟩ ht hx
      have hdl := (Array.getElem?_eq_some_iff.1 hd).1
      have hll := (Array.getElem?_eq_some_iff.1 hl).1
      refine ⟨c, hIx _ _ _ _ _ _ hi (ht.wider fun k h => .inl h) ?_, ⟨fun h => ?_, fun h => ?_⟩, (ht.block _ hll hx2).trans hl, (ht.block _ hdl hx1).trans hd⟩
      · rintro k (h | h | h)
        · rcases hx k h with h | h
          · exact .inl (.inl h)
          · exact .inr h
        · exact .inl (.inr (.inl h))
        · exact .inl (.inr (.inr h))
      · rcases hx _ h with h | h
        · exact hx1 h
        · omega
      · rcases hx _ h with h | h
        · exact hx2 h
        · omega
    · rintro X pre x W ⟨hi, ⟨hx1, hx2⟩, hl, hd⟩ hpre
      have hlt : D + 1 < W.heap.size := (Array.getElem?_eq_some_iff.1 hl).1
      have hy := run_yield (P := P) (args := encs x) hl (by rw [hr]; exact hps x)
      rw [hr] at hy
      refine ⟨fn, _, assign, body, hy, roundIn_of_wpIn hfn (hassign _ x W _ ?_)⟩
      clear hy
      refine ⟨_, run_beginRound hl (by rw [hr]), ?_⟩
      have hl2 : (W.putObj (D + 1) (.loop { r .ready none with state := .busy })).heap[D + 1]? = some (.loop { r .ready none with state := .busy }) := World.putObj_heap_same hlt
      have hd2 : (W.putObj (D + 1) (.loop { r .ready none with state := .busy })).heap[D]? = some (.deferred (some [])) := (World.putObj_heap_other (by omega)).trans hd
      have hk2 : Kept X W (W.putObj (D + 1) (.loop { r .ready none with state := .busy })) := Kept.putObj _ _ _ hx2
      have hi2 := hI _ _ _ _ _ hi (Turned.putObj W (D + 1) (.loop { r .ready none with state := .busy }) (.inr (.inr rfl))) (fun k h => .inl h)
      generalize hWb : W.putObj (D + 1) (.loop { r .ready none with state := .busy }) = Wb at hl2 hd2 hk2 hi2 ⊢
      refine wpIn_mono (hbody _ _ pre x _ hi2 hpre) ?_
      have fin : ∀ (jump : Option Code) (W3 : World), Kept (fun k => X k ∨ k = D ∨ k = D + 1) Wb W3 →
          (Instr.endRound (D + 1) jump).run P W3 = .ok (.bool jump.isNone) (W3.putObj (D + 1) (.loop (r (if jump.isNone then .ready else .done) jump))) ∧
          (W3.putObj (D + 1) (.loop (r (if jump.isNone then .ready else .done) jump))).heap[D + 1]? = some (.loop (r (if jump.isNone then .ready else .done) jump)) ∧
          (W3.putObj (D + 1) (.loop (r (if jump.isNone then .ready else .done) jump))).heap[D]? = some (.deferred (some [])) ∧
          Kept X W (W3.putObj (D + 1) (.loop (r (if jump.isNone then .ready else .done) jump))) := fun jump W3 hk3 => by
        have hl3 := hk3.heap hl2 (.inr (.inr rfl))
        have hd3 := hk3.heap hd2 (.inr (.inl rfl))
        have := run_endRound (P := P) jump hl3
        rw [hr] at this ⊢
        exact ⟨this, World.putObj_heap_same (Array.getElem?_eq_some_iff.1 hl3).1, (World.putObj_heap_other (by omega)).trans hd3, (hk2.trans (hk3.sub fun k h => .inl h)).trans (Kept.putObj _ _ _ hx2)⟩
      rintro e a3 W3 hp
      have abide := fun (X : Nat → Prop) (o : Obj) => Turned.putObj (X := fun k => X k ∨ k = D ∨ k = D + 1) W3 (D + 1) o (.inr (.inr rfl))
      cases e with
      | normal =>
        obtain ⟨hk3, hi3⟩ := hp
        obtain ⟨hrun, hl4, hd4, hk4⟩ := fin none W3 hk3
        exact ⟨_, _, hrun, hk4, .inl ⟨rfl, hI _ _ _ _ _ hi3 (abide X _) (fun k h => .inl h), ⟨hx1, hx2⟩, hl4, hd4⟩⟩
      | ret =>
        obtain ⟨hk3, hi3⟩ := hp
        obtain ⟨hrun, hl4, hd4, hk4⟩ := fin (some .ret) W3 hk3
        exact ⟨_, _, hrun, hk4, .inr ⟨rfl, .ret, hIx _ _ _ _ _ _ hi3 (abide X _) (fun k h => .inl h), ⟨hx1, hx2⟩, hl4, hd4⟩⟩
      | exit id =>
        obtain ⟨hk3, hi3⟩ := hp
        obtain ⟨hrun, hl4, hd4, hk4⟩ := fin (some (.exit id)) W3 hk3
        exact ⟨_, _, hrun, hk4, .inr ⟨rfl, .exit id, hIx _ _ _ _ _ _ hi3 (abide X _) (fun k h => .inl h), ⟨hx1, hx2⟩, hl4, hd4⟩⟩
      | goto t =>
        obtain ⟨hk3, hi3⟩ := hp
        obtain ⟨hrun, hl4, hd4, hk4⟩ := fin (some (.goto t)) W3 hk3
        exact ⟨_, _, hrun, hk4, .inr ⟨rfl, .goto t, hIx _ _ _ _ _ _ hi3 (abide X _) (fun k h => .inl h), ⟨hx1, hx2⟩, hl4, hd4⟩⟩
      | panic ch => exact hp.elim
      | outgrown => exact hp.elim
    · exact hI _ _ _ _ _ h0 ht1 (fun k h => by
        rcases h with h | h | h
        · exact .inl h
        · exact .inr ⟨by omega, by omega⟩
        · exact .inr ⟨by omega, by omega⟩)
    · have := hX0 _ h; omega
    · have := hX0 _ h; omega
    · rintro e W2 ⟨⟨v, rfl⟩, X, (⟨hi, _, hl, hd⟩ | ⟨pre, hpre, c, hi, _, hl, hd⟩)⟩
      · have hrun := run_endLoop (P := P) hl (by rw [hr]; simp)
        rw [hr] at hrun
        exact ⟨none, _, hrun, hdone D _ _ (by omega) (.inr (.inl rfl)) (hI _ _ _ _ _ hi (Turned.putObj _ _ _ (.inr (.inr rfl))) (fun k h => .inl h)) ((World.putObj_heap_other (by omega)).trans hd)⟩
      · have hrun := run_endLoop (P := P) hl (by rw [hr]; simp)
        rw [hr] at hrun
        exact ⟨some c, _, hrun, hstop D _ c pre _ (by omega) (.inr (.inl rfl)) hpre (hIx _ _ _ _ _ _ hi (Turned.putObj _ _ _ (.inr (.inr rfl))) (fun k h => .inl h)) ((World.putObj_heap_other (by omega)).trans hd)⟩

end Go.Proofs.YtchnbnmajagpjaaGreatDoor

namespace Go.Proofs.YtchnbnmajagpjaaGreatDoor
open Go.RowKit
/-- How what is told stands in the values that are handed to the round, in blocks that were laid since the telling began: R abides what turns in other blocks. -/
def AbidesR {α : Type} (R : Nat → (Nat → Prop) → α → Array Value → World → Prop) : Prop :=
  ∀ n X X' Y x vs W W', R n X x vs W → Turned Y W W' → (∀ k, Y k → X k ∨ k < n) → (∀ k, X' k → X k ∨ k < n) → R n X' x vs W'

/-- The function g (with what it has captured, lb) tells xs, one by one. -/
def TellsR {α : Type} (n : Nat) (P : Program) (g : Nat) (lb : Array Value) (R : Nat → (Nat → Prop) → α → Array Value → World → Prop) (X0 : Nat → Prop) (xs : List α) (w : World) : Prop :=
  ∀ (l : Nat) (J Jx : (Nat → Prop) → List α → World → Prop) (W : World), Kept X0 w W → Abides' J → Abides' Jx →
    (∀ X pre x vs W1, J X pre W1 → pre ++ [x] <+: xs → R W.heap.size X x vs W1 → YieldAt Fence.wide (n - 1) P l vs W1 fun e W' => Kept X W1 W' ∧
      ((e = .returned (.bool true) ∧ J X (pre ++ [x]) W') ∨ (e = .returned (.bool false) ∧ Jx X (pre ++ [x]) W'))) →
    J X0 [] W →
    CallsIn Fence.wide n P g (#[.func (.yield l) #[] #[]] ++ lb) W fun e W' => (∃ v, e = .returned v) ∧ ∃ X, (J X xs W' ∨ ∃ pre, pre <+: xs ∧ Jx X pre W')


variable {n : Nat} {P : Program}

theorem wpIn_rangeR {α : Type} {g : Operand} {ps : Array Tmp} {assign body : Code} {Q : Exit → Act → World → Prop} {a : Act} {w : World}
    {gf : Nat} {lb : Array Value} (hg : a.eval g = .func (.func gf) #[] lb) (eg : ∀ args w, (callFunc gf args).run P w = .ok (.enter gf args) w)
    {R : Nat → (Nat → Prop) → α → Array Value → World → Prop} {X0 : Nat → Prop} {xs : List α} {w0 : World} (hseq : TellsR (n - 1) P gf lb R X0 xs w0) (hw0 : Kept X0 w0 w) (hX0 : ∀ k, X0 k → k < w.heap.size) (hRa : AbidesR R) (hps : ∀ n X x vs W, R n X x vs W → vs.size = ps.size)
    (I : (Nat → Prop) → List α → World → Prop) (Ix : Code → (Nat → Prop) → List α → World → Prop) (hI : Abides' I) (hIx : ∀ c, Abides' (Ix c)) (h0 : I X0 [] w) (a₁ : Array Value → Act)
    (hassign : ∀ (l : Nat) (m : Nat) (X : Nat → Prop) (x : α) (vs : Array Value) (W : World) (K : Act → World → Prop), R m X x vs W → K (a₁ vs) W →
      assign.wpIn (Fence.wide.inRound l) (n - 1 - 1) P (Exit.then K (fun _ _ _ => False)) { tmps := (ps.zip vs).foldl (fun t (p, v) => t.setIfInBounds p v) a.tmps, defers := [] } W)
    (hbody : ∀ (l : Nat) (X : Nat → Prop) (pre : List α) (x : α) (vs : Array Value) (W : World), I X pre W → pre ++ [x] <+: xs → R (w.heap.size + 2) X x vs W → body.wpIn (Fence.wide.inRound l) (n - 1 - 1) P (roundOut X I Ix (pre ++ [x]) W) (a₁ vs) W)
    (hdone : ∀ (D : Nat) (X : Nat → Prop) (W : World), w.heap.size ≤ D → X D → I X xs W → W.heap[D]? = some (.deferred (some [])) → Q .normal { a with defers := { target := .collected D, args := #[] } :: a.defers } W)
    (hstop : ∀ (D : Nat) (X : Nat → Prop) (c : Code) (pre : List α) (W : World), w.heap.size ≤ D → X D → pre <+: xs → Ix c X pre W → W.heap[D]? = some (.deferred (some [])) → c.wpIn Fence.wide n P Q { a with defers := { target := .collected D, args := #[] } :: a.defers } W) :
    (Code.rangeFunc g ps assign body).wpIn Fence.wide n P Q a w := by
  refine wpIn_rangeFunc ?_
  intro fn hfn
  rw [show Fence.wide.round = none from rfl]
  obtain ⟨r, hr⟩ : ∃ r : LoopState → Option Code → Loop, r = fun st pe => { state := st, pending := pe, fn, tmps := a.tmps, params := ps, assign, body, defers := w.heap.size } := ⟨_, rfl⟩
  obtain ⟨D, hD⟩ : ∃ D, D = w.heap.size := ⟨_, rfl⟩
  obtain ⟨W1, hW1⟩ : ∃ W1, (w.alloc (.deferred (some []))).alloc (.loop (r .ready none)) = W1 := ⟨_, rfl⟩
  have hL1 : W1.heap[D + 1]? = some (.loop (r .ready none)) := by
    rw [← hW1, hD]; have := World.alloc_heap_new (w.alloc (.deferred (some []))) (.loop (r .ready none)); rwa [World.size_alloc] at this
  have hK1 : W1.heap[D]? = some (.deferred (some [])) := by
    rw [← hW1, hD]; exact (Below.heap_alloc _ _ _ (by simp)).trans (World.alloc_heap_new w _)
  have hs1 : W1.heap.size = D + 2 := by rw [← hW1, hD]; simp
  have ht1 : Turned X0 w W1 := by rw [← hW1]; exact (Turned.alloc X0 w _).trans (Turned.alloc X0 _ _)
  have hk1 : Kept X0 w0 W1 := by rw [← hW1]; exact hw0.trans ((Kept.alloc X0 w _).trans (Kept.alloc X0 _ _))
  refine ⟨D + 1, [{ target := .collected D, args := #[] }], W1, { target := .fn (.func gf) lb, args := #[.func (.yield (D + 1)) #[] #[]] }, W1, gf,
    #[.func (.yield (D + 1)) #[] #[]] ++ lb, W1, ?_, ?_, fun _ _ => trivial, ?_, fun h => ?_, ?_⟩
  · rw [← hW1, hr, hD]; exact run_enterLoop_outer _ _ _ _ _
  · simp only [resolve, hg]
    simp [go_sem]
  · simp [invoke, go_sem, eg]
  · cases h
  · refine (hseq (D + 1)
      (fun X pre W => I (fun k => X k ∨ k = D ∨ k = D + 1) pre W ∧ (¬ X D ∧ ¬ X (D + 1)) ∧ W.heap[D + 1]? = some (.loop (r .ready none)) ∧ W.heap[D]? = some (.deferred (some [])))
      (fun X pre W => ∃ c, Ix c (fun k => X k ∨ k = D ∨ k = D + 1) pre W ∧ (¬ X D ∧ ¬ X (D + 1)) ∧ W.heap[D + 1]? = some (.loop (r .done (some c))) ∧ W.heap[D]? = some (.deferred (some [])))
      W1 hk1 ?_ ?_ ?_ ⟨?_, ⟨fun h => ?_, fun h => ?_⟩, hL1, hK1⟩).mono ?_
    · rintro X X' s A B ⟨hi, ⟨hx1, hx2⟩, hl, hd⟩ ht hx
      have hdl := (Array.getElem?_eq_some_iff.1 hd).1
      have hll := (Array.getElem?_eq_some_iff.1 hl).1
      refine ⟨hI _ _ _ _ _ hi (ht.wider fun k h => .inl h) ?_, ⟨fun h => ?_, fun h => ?_⟩, (ht.block _ hll hx2).trans hl, (ht.block _ hdl hx1).trans hd⟩
      · rintro k (h | h | h)
        · rcases hx k h with h | h
          · exact .inl (.inl h)
          · exact .inr h
        · exact .inl (.inr (.inl h))
        · exact .inl (.inr (.inr h))
      · rcases hx _ h with h | h
        · exact hx1 h
        · omega
      · rcases hx _ h with h | h
        · exact hx2 h
        · omega
    · rintro X X' s A B ⟨c, hi, ⟨hx1, hx2⟩, hl, hd⟩ ht hx
      have hdl := (Array.getElem?_eq_some_iff.1 hd).1
      have hll := (Array.getElem?_eq_some_iff.1 hl).1
      refine ⟨c, hIx _ _ _ _ _ _ hi (ht.wider fun k h => .inl h) ?_, ⟨fun h => ?_, fun h => ?_⟩, (ht.block _ hll hx2).trans hl, (ht.block _ hdl hx1).trans hd⟩
      · rintro k (h | h | h)
        · rcases hx k h with h | h
          · exact .inl (.inl h)
          · exact .inr h
        · exact .inl (.inr (.inl h))
        · exact .inl (.inr (.inr h))
      · rcases hx _ h with h | h
        · exact hx1 h
        · omega
      · rcases hx _ h with h | h
        · exact hx2 h
        · omega
    · rintro X pre x vs W ⟨hi, ⟨hx1, hx2⟩, hl, hd⟩ hpre hRx
      have hlt : D + 1 < W.heap.size := (Array.getElem?_eq_some_iff.1 hl).1
      have hy := run_yield (P := P) (args := vs) hl (by rw [hr]; exact hps _ _ _ _ _ hRx)
      rw [hr] at hy
      refine ⟨fn, _, assign, body, hy, roundIn_of_wpIn hfn (hassign _ _ _ x vs W _ hRx ?_)⟩
      clear hy
      refine ⟨_, run_beginRound hl (by rw [hr]), ?_⟩
      have hl2 : (W.putObj (D + 1) (.loop { r .ready none with state := .busy })).heap[D + 1]? = some (.loop { r .ready none with state := .busy }) := World.putObj_heap_same hlt
      have hd2 : (W.putObj (D + 1) (.loop { r .ready none with state := .busy })).heap[D]? = some (.deferred (some [])) := (World.putObj_heap_other (by omega)).trans hd
      have hk2 : Kept X W (W.putObj (D + 1) (.loop { r .ready none with state := .busy })) := Kept.putObj _ _ _ hx2
      have hi2 := hI _ _ _ _ _ hi (Turned.putObj W (D + 1) (.loop { r .ready none with state := .busy }) (.inr (.inr rfl))) (fun k h => .inl h)
      have hR2 : R (w.heap.size + 2) (fun k => X k ∨ k = D ∨ k = D + 1) x vs (W.putObj (D + 1) (.loop { r .ready none with state := .busy })) := by
        rw [hs1, hD] at hRx
        refine hRa _ X _ (fun k => k = D + 1) x vs W _ hRx (Turned.putObj W (D + 1) _ rfl) (fun k h => .inr (by omega)) ?_
        rintro k (h | h | h)
        · exact .inl h
        · exact .inr (by omega)
        · exact .inr (by omega)
      generalize hWb : W.putObj (D + 1) (.loop { r .ready none with state := .busy }) = Wb at hl2 hd2 hk2 hi2 hR2 ⊢
      refine wpIn_mono (hbody _ _ pre x vs _ hi2 hpre hR2) ?_
      have fin : ∀ (jump : Option Code) (W3 : World), Kept (fun k => X k ∨ k = D ∨ k = D + 1) Wb W3 →
          (Instr.endRound (D + 1) jump).run P W3 = .ok (.bool jump.isNone) (W3.putObj (D + 1) (.loop (r (if jump.isNone then .ready else .done) jump))) ∧
          (W3.putObj (D + 1) (.loop (r (if jump.isNone then .ready else .done) jump))).heap[D + 1]? = some (.loop (r (if jump.isNone then .ready else .done) jump)) ∧
          (W3.putObj (D + 1) (.loop (r (if jump.isNone then .ready else .done) jump))).heap[D]? = some (.deferred (some [])) ∧
          Kept X W (W3.putObj (D + 1) (.loop (r (if jump.isNone then .ready else .done) jump))) := fun jump W3 hk3 => by
        have hl3 := hk3.heap hl2 (.inr (.inr rfl))
        have hd3 := hk3.heap hd2 (.inr (.inl rfl))
        have := run_endRound (P := P) jump hl3
        rw [hr] at this ⊢
        exact ⟨this, World.putObj_heap_same (Array.getElem?_eq_some_iff.1 hl3).1, (World.putObj_heap_other (by omega)).trans hd3, (hk2.trans (hk3.sub fun k h => .inl h)).trans (Kept.putObj _ _ _ hx2)⟩
      rintro e a3 W3 hp
      have abide := fun (X : Nat → Prop) (o : Obj) => Turned.putObj (X := fun k => X k ∨ k = D ∨ k = D + 1) W3 (D + 1) o (.inr (.inr rfl))
      cases e with
      | normal =>
        obtain ⟨hk3, hi3⟩ := hp
        obtain ⟨hrun, hl4, hd4, hk4⟩ := fin none W3 hk3
        exact ⟨_, _, hrun, hk4, .inl ⟨rfl, hI _ _ _ _ _ hi3 (abide X _) (fun k h => .inl h), ⟨hx1, hx2⟩, hl4, hd4⟩⟩
      | ret =>
        obtain ⟨hk3, hi3⟩ := hp
        obtain ⟨hrun, hl4, hd4, hk4⟩ := fin (some .ret) W3 hk3
        exact ⟨_, _, hrun, hk4, .inr ⟨rfl, .ret, hIx _ _ _ _ _ _ hi3 (abide X _) (fun k h => .inl h), ⟨hx1, hx2⟩, hl4, hd4⟩⟩
      | exit id =>
        obtain ⟨hk3, hi3⟩ := hp
        obtain ⟨hrun, hl4, hd4, hk4⟩ := fin (some (.exit id)) W3 hk3
        exact ⟨_, _, hrun, hk4, .inr ⟨rfl, .exit id, hIx _ _ _ _ _ _ hi3 (abide X _) (fun k h => .inl h), ⟨hx1, hx2⟩, hl4, hd4⟩⟩
      | goto t =>
        obtain ⟨hk3, hi3⟩ := hp
        obtain ⟨hrun, hl4, hd4, hk4⟩ := fin (some (.goto t)) W3 hk3
        exact ⟨_, _, hrun, hk4, .inr ⟨rfl, .goto t, hIx _ _ _ _ _ _ hi3 (abide X _) (fun k h => .inl h), ⟨hx1, hx2⟩, hl4, hd4⟩⟩
      | panic ch => exact hp.elim
      | outgrown => exact hp.elim
    · exact hI _ _ _ _ _ h0 ht1 (fun k h => by
        rcases h with h | h | h
        · exact .inl h
        · exact .inr ⟨by omega, by omega⟩
        · exact .inr ⟨by omega, by omega⟩)
    · have := hX0 _ h; omega
    · have := hX0 _ h; omega
    · rintro e W2 ⟨⟨v, rfl⟩, X, (⟨hi, _, hl, hd⟩ | ⟨pre, hpre, c, hi, _, hl, hd⟩)⟩
      · have hrun := run_endLoop (P := P) hl (by rw [hr]; simp)
        rw [hr] at hrun
        exact ⟨none, _, hrun, hdone D _ _ (by omega) (.inr (.inl rfl)) (hI _ _ _ _ _ hi (Turned.putObj _ _ _ (.inr (.inr rfl))) (fun k h => .inl h)) ((World.putObj_heap_other (by omega)).trans hd)⟩
      · have hrun := run_endLoop (P := P) hl (by rw [hr]; simp)
        rw [hr] at hrun
        exact ⟨some c, _, hrun, hstop D _ c pre _ (by omega) (.inr (.inl rfl)) hpre (hIx _ _ _ _ _ _ hi (Turned.putObj _ _ _ (.inr (.inr rfl))) (fun k h => .inl h)) ((World.putObj_heap_other (by omega)).trans hd)⟩

end Go.Proofs.YtchnbnmajagpjaaGreatDoor

namespace Go.Proofs.YtchnbnmajagpjaaGreatDoor
open Go.RowKit Go.Shelf

def digB (c : UInt8) : Bool := decide (48 ≤ c.toNat ∧ c.toNat ≤ 57)
def letB (c : UInt8) : Bool := decide (65 ≤ c.toNat ∧ c.toNat ≤ 90 ∨ 97 ≤ c.toNat ∧ c.toNat ≤ 122)
def plainB (c : UInt8) : Bool := letB c || digB c || decide (c.toNat = 95 ∨ c.toNat = 45 ∨ c.toNat = 46 ∨ c.toNat = 47 ∨ c.toNat = 43)
def blankB (c : UInt8) : Bool := decide (c.toNat = 32 ∨ c.toNat = 9)
def nlB (c : UInt8) : Bool := decide (c.toNat = 10)
def slashB (c : UInt8) : Bool := decide (c.toNat = 47)
theorem ret_bool {a b : Bool} (h : a = b) : Ending.returned (.bool a) = .returned (.bool b) := by rw [h]
theorem nat_beq (a b : Nat) : (((a : Nat) : Int) == (b : Int)) = decide (a = b) := by
  rw [Bool.eq_iff_iff]; simp; omega
set_option maxHeartbeats 400000 in
theorem isDigit_any (c : UInt8) (w : World) : Calls Tryz.prog 113 #[.int .u8 (c.toNat : Int)] w fun e w' => e = .returned (.bool (digB c)) ∧ w = w' := by
  by_cases h1 : 48 ≤ c.toNat <;> by_cases h2 : c.toNat ≤ 57
  all_goals first
    | (exfalso; omega)
    | (go_enter Tryz.func113, Tryz.ntmps113
       go_wp2
       go_ret
       exact ⟨ret_bool (by rw [Bool.eq_iff_iff]; simp [digB]; omega), rfl⟩)
set_option maxHeartbeats 400000 in
theorem isLetter_any (c : UInt8) (w : World) : Calls Tryz.prog 112 #[.int .u8 (c.toNat : Int)] w fun e w' => e = .returned (.bool (letB c)) ∧ w = w' := by
  by_cases h1 : 65 ≤ c.toNat <;> by_cases h2 : c.toNat ≤ 90 <;> by_cases h3 : 97 ≤ c.toNat <;> by_cases h4 : c.toNat ≤ 122
  all_goals first
    | (exfalso; omega)
    | (go_enter Tryz.func112, Tryz.ntmps112
       go_wp2
       go_ret
       exact ⟨ret_bool (by rw [Bool.eq_iff_iff]; simp [letB]; omega), rfl⟩)
theorem isLetter_t (c : UInt8) (w : World) (h : letB c = true) : Calls Tryz.prog 112 #[.int .u8 (c.toNat : Int)] w fun e w' => e = .returned (.bool true) ∧ w = w' := by
  have := isLetter_any c w; rwa [h] at this
theorem isLetter_f (c : UInt8) (w : World) (h : letB c = false) : Calls Tryz.prog 112 #[.int .u8 (c.toNat : Int)] w fun e w' => e = .returned (.bool false) ∧ w = w' := by
  have := isLetter_any c w; rwa [h] at this
theorem isDigit_t (c : UInt8) (w : World) (h : digB c = true) : Calls Tryz.prog 113 #[.int .u8 (c.toNat : Int)] w fun e w' => e = .returned (.bool true) ∧ w = w' := by
  have := isDigit_any c w; rwa [h] at this
theorem isDigit_f (c : UInt8) (w : World) (h : digB c = false) : Calls Tryz.prog 113 #[.int .u8 (c.toNat : Int)] w fun e w' => e = .returned (.bool false) ∧ w = w' := by
  have := isDigit_any c w; rwa [h] at this
set_option maxHeartbeats 1000000 in
theorem isPlain_any (c : UInt8) (w : World) : Calls Tryz.prog 97 #[.int .u8 (c.toNat : Int)] w fun e w' => e = .returned (.bool (plainB c)) ∧ w = w' := by
  cases hl : letB c with
  | true =>
    have HL := Lib.hid hl; clear hl
    go_enter Tryz.func97, Tryz.ntmps97
    go_wp2_with (go_at_call 112; refine (isLetter_t _ _ HL.out).mono ?_; rintro e w' ⟨rfl, rfl⟩)
    go_ret
    exact ⟨ret_bool (by simp [plainB, HL.out]), rfl⟩
  | false =>
    cases hd : digB c with
    | true =>
      have HL := Lib.hid hl; clear hl
      have HD := Lib.hid hd; clear hd
      go_enter Tryz.func97, Tryz.ntmps97
      go_wp2_with (first | (go_at_call 112; refine (isLetter_f _ _ HL.out).mono ?_; rintro e w' ⟨rfl, rfl⟩) | (go_at_call 113; refine (isDigit_t _ _ HD.out).mono ?_; rintro e w' ⟨rfl, rfl⟩))
      go_ret
      exact ⟨ret_bool (by simp [plainB, HL.out, HD.out]), rfl⟩
    | false =>
      have HL := Lib.hid hl; clear hl
      have HD := Lib.hid hd; clear hd
      by_cases h1 : c.toNat = 95
      · have e1 : ((c.toNat : Int) == 95) = true := by simp; omega
        have H1 := Lib.hid h1; clear h1
        go_enter Tryz.func97, Tryz.ntmps97
        go_wp2_with (first | (go_at_call 112; refine (isLetter_f _ _ HL.out).mono ?_; rintro e w' ⟨rfl, rfl⟩) | (go_at_call 113; refine (isDigit_f _ _ HD.out).mono ?_; rintro e w' ⟨rfl, rfl⟩))
        go_ret
        exact ⟨ret_bool (by simp [plainB, H1.out]), rfl⟩
      by_cases h2 : c.toNat = 45
      · have e1 : ((c.toNat : Int) == 95) = false := by simp; omega
        have e2 : ((c.toNat : Int) == 45) = true := by simp; omega
        have H2 := Lib.hid h2; clear h1 h2
        go_enter Tryz.func97, Tryz.ntmps97
        go_wp2_with (first | (go_at_call 112; refine (isLetter_f _ _ HL.out).mono ?_; rintro e w' ⟨rfl, rfl⟩) | (go_at_call 113; refine (isDigit_f _ _ HD.out).mono ?_; rintro e w' ⟨rfl, rfl⟩))
        go_ret
        exact ⟨ret_bool (by simp [plainB, H2.out]), rfl⟩
      by_cases h3 : c.toNat = 46
      · have e1 : ((c.toNat : Int) == 95) = false := by simp; omega
        have e2 : ((c.toNat : Int) == 45) = false := by simp; omega
        have e3 : ((c.toNat : Int) == 46) = true := by simp; omega
        have H3 := Lib.hid h3; clear h1 h2 h3
        go_enter Tryz.func97, Tryz.ntmps97
        go_wp2_with (first | (go_at_call 112; refine (isLetter_f _ _ HL.out).mono ?_; rintro e w' ⟨rfl, rfl⟩) | (go_at_call 113; refine (isDigit_f _ _ HD.out).mono ?_; rintro e w' ⟨rfl, rfl⟩))
        go_ret
        exact ⟨ret_bool (by simp [plainB, H3.out]), rfl⟩
      by_cases h4 : c.toNat = 47
      · have e1 : ((c.toNat : Int) == 95) = false := by simp; omega
        have e2 : ((c.toNat : Int) == 45) = false := by simp; omega
        have e3 : ((c.toNat : Int) == 46) = false := by simp; omega
        have e4 : ((c.toNat : Int) == 47) = true := by simp; omega
        have H4 := Lib.hid h4; clear h1 h2 h3 h4
        go_enter Tryz.func97, Tryz.ntmps97
        go_wp2_with (first | (go_at_call 112; refine (isLetter_f _ _ HL.out).mono ?_; rintro e w' ⟨rfl, rfl⟩) | (go_at_call 113; refine (isDigit_f _ _ HD.out).mono ?_; rintro e w' ⟨rfl, rfl⟩))
        go_ret
        exact ⟨ret_bool (by simp [plainB, H4.out]), rfl⟩
      · have e1 : ((c.toNat : Int) == 95) = false := by simp; omega
        have e2 : ((c.toNat : Int) == 45) = false := by simp; omega
        have e3 : ((c.toNat : Int) == 46) = false := by simp; omega
        have e4 : ((c.toNat : Int) == 47) = false := by simp; omega
        have H1 := Lib.hid h1
        have H2 := Lib.hid h2
        have H3 := Lib.hid h3
        have H4 := Lib.hid h4
        clear h1 h2 h3 h4
        go_enter Tryz.func97, Tryz.ntmps97
        go_wp2_with (first | (go_at_call 112; refine (isLetter_f _ _ HL.out).mono ?_; rintro e w' ⟨rfl, rfl⟩) | (go_at_call 113; refine (isDigit_f _ _ HD.out).mono ?_; rintro e w' ⟨rfl, rfl⟩))
        go_ret
        exact ⟨ret_bool (by simp [plainB, HL.out, HD.out, H1.out, H2.out, H3.out, H4.out]; exact nat_beq c.toNat 43), rfl⟩
theorem isPlain_t (c : UInt8) (w : World) (h : plainB c = true) : Calls Tryz.prog 97 #[.int .u8 (c.toNat : Int)] w fun e w' => e = .returned (.bool true) ∧ w = w' := by
  have := isPlain_any c w; rwa [h] at this
theorem isPlain_f (c : UInt8) (w : World) (h : plainB c = false) : Calls Tryz.prog 97 #[.int .u8 (c.toNat : Int)] w fun e w' => e = .returned (.bool false) ∧ w = w' := by
  have := isPlain_any c w; rwa [h] at this

end Go.Proofs.YtchnbnmajagpjaaGreatDoor

namespace Go.Proofs.YtchnbnmajagpjaaGreatDoor
open Go.RowKit Go.Shelf
attribute [local go_sem] Oper.semAt_some
set_option maxHeartbeats 400000 in
theorem isSlash_any (c : UInt8) (w : World) : Calls Tryz.prog 95 #[.int .u8 (c.toNat : Int)] w fun e w' => e = .returned (.bool (slashB c)) ∧ w = w' := by
  go_enter Tryz.func95, Tryz.ntmps95
  go_wp2
  go_ret
  exact ⟨ret_bool (nat_beq _ _), rfl⟩
set_option maxRecDepth 100000 in
set_option maxHeartbeats 1000000 in
theorem between1_tells (n : Nat) (s : ByteArray) (hs : s.size ≤ maxLen) (p : UInt8 → Bool) (k : Nat) (hk : ∀ args w, (callFunc k args).run Tryz.prog w = .ok (.enter k args) w)
    (hcut : ∀ (c : UInt8) (w : World), Calls Tryz.prog k #[.int .u8 (c.toNat : Int)] w fun e w' => e = .returned (.bool (p c)) ∧ w = w') (b1 b2 : Nat) (w : World)
    (hb1 : Boxed w b1 9 (.string s)) (hb2 : Boxed w b2 135 (.func (.func k) #[] #[])) :
    Tells n Tryz.prog 110 #[.pointer (some ⟨b1, 0, none⟩), .pointer (some ⟨b2, 0, none⟩)] (fun x : ByteArray => #[Value.string x]) (fun j => j = b1 ∨ j = b2) ((pieces p s.data.toList).map txt) w := by
  intro l J Jx W hW hJ hJx hY h0
  have hB1 := hW.boxed hb1 (.inl rfl)
  have hB2 := hW.boxed hb2 (.inr rfl)
  unfold maxLen at hs
  refine callsIn_of_wp Tryz.func110 rfl trivial ?_ rfl
  simp only [Tryz.ntmps110, List.size_toArray, List.length_cons, List.length_nil, Nat.reduceAdd, Nat.reduceSub, Array.replicate_succ, Array.replicate_zero, List.push_toArray, List.append_toArray, List.nil_append, List.cons_append]
  have hc1 := hB1.cell
  have hc2 := hB2.cell
  gi_wp2
  gi_loopw [4, 8] (fun st i wr => ∃ (a m : Nat) (pre : List ByteArray), st = .int .i64 a ∧ i = .int .i64 m ∧ a ≤ m ∧ m ≤ s.size ∧ (∀ c ∈ (s.data.toList.drop a).take (m - a), p c = false) ∧
      (pieces p s.data.toList).map txt = pre ++ (pieces p (s.data.toList.drop a)).map txt ∧ Boxed wr b1 9 (.string s) ∧ Boxed wr b2 135 (.func (.func k) #[] #[]) ∧ J (fun j => j = b1 ∨ j = b2) pre wr)
    (fun _ i _ => s.size - (intOf i).toNat)
  case atStart => exact ⟨0, 0, [], rfl, rfl, Nat.le_refl _, Nat.zero_le _, by simp, by simp, hB1, hB2, h0⟩
  case round =>
    obtain ⟨a, m, pre, rfl, rfl, ham, hms, hno, hp, hr1, hr2, hJs⟩ := hrel
    have hc3 := hr1.cell
    have hc4 := hr2.cell
    by_cases hlt : m < s.size
    · cases hpc : p s[m] with
      | true =>
        have HC : Hid (∀ w, Calls Tryz.prog k #[.int .u8 (s[m].toNat : Int)] w fun e w' => e = .returned (.bool true) ∧ w = w') := fun w => by have := hcut s[m] w; rwa [hpc] at this
        have HK := Lib.hid hpc; clear hpc
        gi_wp2
        refine wpIn_wide.2 ?_
        go_quiet ((exact still_call (HC.out _)))
        have hcut1 := cut_at p s.data.toList a m ham (by simpa using hlt) hno HK.out
        have hJd := hJ _ _ _ _ _ hJs (Turned.drewN _ wr nq) (fun j h => .inl h)
        have hpx : (pieces p s.data.toList).map txt = (pre ++ [s.extract a m]) ++ (pieces p (s.data.toList.drop (m + 1))).map txt := by
          rw [hp, hcut1, extract_txt]; simp
        have hR0 := hY _ pre (s.extract a m) _ hJd ⟨_, hpx.symm⟩
        have hk3 := (Kept.drewN (fun j => j = b1 ∨ j = b2) wr nq)
        have hd1 := hk3.boxed hr1 (.inl rfl)
        have hd2 := hk3.boxed hr2 (.inr rfl)
        have hc5 := hd1.cell
        obtain ⟨fn, tmps, assign, body, hy, hR⟩ := hR0
        have HP := Lib.hid hpx
        have HR := Lib.hid hR
        clear hpx hcut1 hp hno hR hk3
        gi_wp2
        refine ⟨(fun h => (by cases h)), (RoundIn.depth HR.out).mono ?_⟩
        rintro e W3 ⟨hk3, (⟨rfl, hJ3⟩ | ⟨rfl, hJx3⟩)⟩
        · gi_wp2
          go_roundw
          case rel => exact ⟨m + 1, m + 1, pre ++ [s.extract a m], by go_num, by go_num, Nat.le_refl _, hlt, by simp, HP.out, hk3.boxed hd1 (.inl rfl), hk3.boxed hd2 (.inr rfl), hJ3⟩
          case measure => simp [intOf]; omega
        · gi_wp2
          refine bodyPost_ret (results_none rfl _ _ _) rfl ?_
          exact ⟨⟨_, rfl⟩, _, .inr ⟨pre ++ [s.extract a m], ⟨_, HP.out.symm⟩, hJx3⟩⟩
      | false =>
        have HC : Hid (∀ w, Calls Tryz.prog k #[.int .u8 (s[m].toNat : Int)] w fun e w' => e = .returned (.bool false) ∧ w = w') := fun w => by have := hcut s[m] w; rwa [hpc] at this
        have HK := Lib.hid hpc; clear hpc
        gi_wp2
        refine wpIn_wide.2 ?_
        go_quiet ((exact still_call (HC.out _)))
        have hno1 := none_next p s.data.toList a m ham (by simpa using hlt) hno HK.out
        have hJd := hJ _ _ _ _ _ hJs (Turned.drewN _ wr nq) (fun j h => .inl h)
        have hk3 := (Kept.drewN (fun j => j = b1 ∨ j = b2) wr nq)
        have hd1 := hk3.boxed hr1 (.inl rfl)
        have hd2 := hk3.boxed hr2 (.inr rfl)
        have HP := Lib.hid hp
        have HN := Lib.hid hno1
        clear hp hno hno1 hk3
        gi_wp2
        go_roundw
        case rel => exact ⟨a, m + 1, pre, rfl, by go_num, by omega, hlt, HN.out, HP.out, hd1, hd2, hJd⟩
        case measure => simp [intOf]; omega
    · obtain rfl : m = s.size := by omega
      have hno1 : ∀ c ∈ s.data.toList.drop a, p c = false := fun c hc => hno c (by rw [take_rest]; exact hc)
      have hpx : (pieces p s.data.toList).map txt = pre ++ [s.extract a s.size] := by
        rw [hp, pieces_none p _ hno1, extract_txt, take_rest]; rfl
      have hR0 := hY _ pre (s.extract a s.size) _ hJs (by rw [hpx]; exact List.prefix_refl _)
      obtain ⟨fn, tmps, assign, body, hy, hR⟩ := hR0
      have HP := Lib.hid hpx
      have HR := Lib.hid hR
      clear hpx hp hno hno1 hR
      gi_wp2
      refine ⟨(fun h => (by cases h)), (RoundIn.depth HR.out).mono ?_⟩
      rintro e W3 ⟨hk3, (⟨rfl, hJ3⟩ | ⟨rfl, hJx3⟩)⟩
      · gi_wp2
        go_end0
        exact ⟨⟨_, rfl⟩, _, .inl (by rw [HP.out]; exact hJ3)⟩
      · gi_wp2
        go_end0
        exact ⟨⟨_, rfl⟩, _, .inr ⟨pre ++ [s.extract a s.size], by rw [HP.out]; exact List.prefix_refl _, hJx3⟩⟩

end Go.Proofs.YtchnbnmajagpjaaGreatDoor

namespace Go.Proofs.YtchnbnmajagpjaaGreatDoor
open Go.RowKit Go.Shelf
attribute [local go_sem] Oper.semAt_some
theorem pieces_len (p : UInt8 → Bool) (l : List UInt8) : (pieces p l).length ≤ l.length + 1 := by
  induction l with
  | nil => simp [pieces]
  | cons c r ih =>
    simp only [pieces]
    split
    · simpa using ih
    · split
      · rename_i h; rw [h] at ih; simp at ih ⊢; omega
      · simp
set_option maxHeartbeats 400000 in
theorem between_any (s : ByteArray) (f : Nat) (w : World) : Calls Tryz.prog 94 #[.string s, .func (.func f) #[] #[]] w fun e w' =>
    e = .returned (.func (.func 110) #[] #[.pointer (some ⟨w.heap.size, 0, none⟩), .pointer (some ⟨w.heap.size + 1, 0, none⟩)]) ∧ (w.alloc (.cells #[.string s] 9)).alloc (.cells #[.func (.func f) #[] #[]] 135) = w' := by
  go_enter Tryz.func94, Tryz.ntmps94
  go_wp2
  go_ret
  exact ⟨rfl, rfl⟩
set_option maxHeartbeats 1000000 in
theorem allPlain_any (s : ByteArray) (hs : s.size ≤ maxLen) (w : World) : Calls Tryz.prog 93 #[.string s] w fun e w' => e = .returned (.bool (allB plainB s.data.toList)) ∧ w = w' := by
  unfold maxLen at hs
  go_enter Tryz.func93, Tryz.ntmps93
  go_wp2
  go_loop [6] (fun i => ∃ k : Nat, k ≤ s.size ∧ i = .int .i64 k ∧ allB plainB (s.data.toList.take k) = true) (fun i => s.size - (intOf i).toNat)
  case atStart => exact ⟨0, Nat.zero_le _, rfl, by simp [allB]⟩
  case round =>
    obtain ⟨k, hk, rfl, hall⟩ := hrel
    have HA := Lib.hid hall; clear hall
    by_cases hlt : k < s.size
    · have hlt' : k < s.data.toList.length := by rw [Array.length_toList]; exact hlt
      have hgk : s.data.toList[k] = s[k] := by rw [Array.getElem_toList]; rfl
      cases hp : plainB s[k] with
      | true =>
        have HN : Hid (allB plainB (s.data.toList.take (k + 1)) = true) := all_take HA.out hlt' (by rw [hgk]; exact hp)
        have HP := Lib.hid hp; clear hp hgk
        go_wp2_with (go_at_call 97; refine (isPlain_t _ _ HP.out).mono ?_; rintro e w' ⟨rfl, rfl⟩)
        go_round
        case rel => exact ⟨k + 1, by omega, by go_num, HN.out⟩
        case measure => simp [intOf]; omega
      | false =>
        have HN : Hid (allB plainB s.data.toList = false) := all_not hlt' (by rw [hgk]; exact hp)
        have HP := Lib.hid hp; clear hp hgk
        go_wp2_with (go_at_call 97; refine (isPlain_f _ _ HP.out).mono ?_; rintro e w' ⟨rfl, rfl⟩)
        go_ret
        exact ⟨ret_bool HN.out.symm, rfl⟩
    · have HN : Hid (allB plainB s.data.toList = true) := by
        have := HA.out
        rwa [List.take_of_length_le (by rw [Array.length_toList]; show s.size ≤ k; omega)] at this
      go_wp2
      go_ret
      exact ⟨ret_bool HN.out.symm, rfl⟩
def partB (x : ByteArray) : Bool := !(x.toList == [] || x.toList == [46] || x.toList == [46, 46])
def pathB (l : List UInt8) : Bool := decide (l.length ≤ 100) && allB plainB l && ((pieces slashB l).map txt).all partB && decide ((pieces slashB l).length ≤ 8)
theorem allPlain_t (s : ByteArray) (hs : s.size ≤ maxLen) (h : allB plainB s.data.toList = true) (w : World) : Calls Tryz.prog 93 #[.string s] w fun e w' => e = .returned (.bool true) ∧ w = w' := by
  have := allPlain_any s hs w; rwa [h] at this
theorem allPlain_f (s : ByteArray) (hs : s.size ≤ maxLen) (h : allB plainB s.data.toList = false) (w : World) : Calls Tryz.prog 93 #[.string s] w fun e w' => e = .returned (.bool false) ∧ w = w' := by
  have := allPlain_any s hs w; rwa [h] at this
set_option maxRecDepth 100000 in
set_option maxHeartbeats 1000000 in
theorem path_long (s : ByteArray) (hs : s.size ≤ maxLen) (h : 100 < s.size) (w : World) : Calls Tryz.prog 69 #[.string s] w fun e w' => e = .returned (.bool false) ∧ Below w.heap.size w w' := by
  unfold maxLen at hs
  go_enter Tryz.func69, Tryz.ntmps69
  go_wp2
  exact bodyPost_ret (v := .bool false) (by simp [results, Tryz.results69, go_sem]) rfl ⟨rfl, (Below.refl _ w).alloc (Nat.le_refl _) _⟩
set_option maxRecDepth 100000 in
set_option maxHeartbeats 1000000 in
theorem path_unplain (s : ByteArray) (h : s.size ≤ 100) (hp : allB plainB s.data.toList = false) (w : World) : Calls Tryz.prog 69 #[.string s] w fun e w' => e = .returned (.bool false) ∧ Below w.heap.size w w' := by
  have hs : s.size ≤ maxLen := by unfold maxLen; omega
  have HP := Lib.hid hp; clear hp
  go_enter Tryz.func69, Tryz.ntmps69
  go_wp2_with (go_at_call 93; refine (allPlain_f s hs HP.out _).mono ?_; rintro e w' ⟨rfl, rfl⟩)
  exact bodyPost_ret (v := .bool false) (by simp [results, Tryz.results69, go_sem]) rfl ⟨rfl, (Below.refl _ w).alloc (Nat.le_refl _) _⟩
def PathI (n₀ R : Nat) (w : World) (X : Nat → Prop) (pre : List ByteArray) (W : World) : Prop :=
  (Boxed W R 4 (.bool false) ∧ Boxed W (R + 1) 3 (.int .i64 pre.length) ∧ ¬ X R ∧ ¬ X (R + 1)) ∧ pre.all partB = true ∧ Below n₀ w W ∧ ∀ k, X k → n₀ ≤ k
def PathX (n₀ R : Nat) (w : World) (c : Code) (X : Nat → Prop) (pre : List ByteArray) (W : World) : Prop :=
  c = .ret ∧ (Boxed W R 4 (.bool false) ∧ ¬ X R) ∧ pre.all partB = false ∧ Below n₀ w W ∧ ∀ k, X k → n₀ ≤ k
theorem not_sub {X X' : Nat → Prop} {A B : World} (hsub : ∀ k, X' k → X k ∨ (A.heap.size ≤ k ∧ k < B.heap.size)) {j : Nat} (h : ¬ X j) (hlt : j < A.heap.size) : ¬ X' j := fun hx => by
  rcases hsub j hx with h' | h'
  · exact h h'
  · omega
theorem pathI_abides (n₀ R : Nat) (w : World) (hn : n₀ ≤ w.heap.size) : Abides' (PathI n₀ R w) := by
  rintro X X' pre A B ⟨⟨h1, h2, h3, h4⟩, h5, h6, h7⟩ hT hsub
  refine ⟨⟨hT.boxed h1 h3, hT.boxed h2 h4, not_sub hsub h3 h1.lt, not_sub hsub h4 h2.lt⟩, h5, h6.trans (hT.below (by have := h6.size; omega) h7), fun k h => ?_⟩
  rcases hsub k h with h | h
  · exact h7 k h
  · have := h6.size; omega
theorem pathX_abides (n₀ R : Nat) (w : World) (hn : n₀ ≤ w.heap.size) (c : Code) : Abides' (PathX n₀ R w c) := by
  rintro X X' pre A B ⟨h0, ⟨h1, h3⟩, h5, h6, h7⟩ hT hsub
  refine ⟨h0, ⟨hT.boxed h1 h3, not_sub hsub h3 h1.lt⟩, h5, h6.trans (hT.below (by have := h6.size; omega) h7), fun k h => ?_⟩
  rcases hsub k h with h | h
  · exact h7 k h
  · have := h6.size; omega
set_option maxRecDepth 100000 in
set_option maxHeartbeats 2000000 in
theorem path_parts (s : ByteArray) (h : s.size ≤ 100) (hp : allB plainB s.data.toList = true) (w : World) : Calls Tryz.prog 69 #[.string s] w fun e w' =>
    e = .returned (.bool (((pieces slashB s.data.toList).map txt).all partB && decide ((pieces slashB s.data.toList).length ≤ 8))) ∧ Below w.heap.size w w' := by
  have hs : s.size ≤ maxLen := by unfold maxLen; omega
  have HP := Lib.hid hp; clear hp
  refine (callsIn_wide (n := 9)).1 ?_
  refine callsIn_of_wp_marks Tryz.func69 rfl trivial ?_ rfl
  simp only [Tryz.ntmps69, List.size_toArray, List.length_cons, List.length_nil, Nat.reduceAdd, Nat.reduceSub, Array.replicate_succ, Array.replicate_zero, List.push_toArray, List.append_toArray, List.nil_append, List.cons_append]
  have hz : decide (100 < (s.size : Int)) = false := by simp; omega
  gi_wp2
  refine ⟨trivial, (callsIn_wide.2 (allPlain_t s hs HP.out _)).mono ?_⟩
  rintro e w' ⟨rfl, rfl⟩
  gi_wp2
  refine ⟨trivial, (callsIn_wide.2 (between_any s _ _)).mono ?_⟩
  rintro e w' ⟨rfl, rfl⟩
  gi_wp2
  have bR : Boxed ((((w.alloc (.cells #[.bool false] 4)).alloc (.cells #[.int .i64 0] 3)).alloc (.cells #[.string s] 9)).alloc (.cells #[.func (.func 95) #[] #[]] 135)) w.heap.size 4 (.bool false) := (((Boxed.new w _ _).alloc _).alloc _).alloc _
  have bP : Boxed ((((w.alloc (.cells #[.bool false] 4)).alloc (.cells #[.int .i64 0] 3)).alloc (.cells #[.string s] 9)).alloc (.cells #[.func (.func 95) #[] #[]] 135)) (w.heap.size + 1) 3 (.int .i64 0) := by
    have := ((Boxed.new (w.alloc (.cells #[.bool false] 4)) 3 (.int .i64 0)).alloc (.cells #[.string s] 9)).alloc (.cells #[.func (.func 95) #[] #[]] 135)
    rwa [World.size_alloc] at this
  have bS : Boxed ((((w.alloc (.cells #[.bool false] 4)).alloc (.cells #[.int .i64 0] 3)).alloc (.cells #[.string s] 9)).alloc (.cells #[.func (.func 95) #[] #[]] 135)) (w.heap.size + 1 + 1) 9 (.string s) := by
    have := (Boxed.new ((w.alloc (.cells #[.bool false] 4)).alloc (.cells #[.int .i64 0] 3)) 9 (.string s)).alloc (.cells #[.func (.func 95) #[] #[]] 135)
    rwa [World.size_alloc, World.size_alloc] at this
  have bC : Boxed ((((w.alloc (.cells #[.bool false] 4)).alloc (.cells #[.int .i64 0] 3)).alloc (.cells #[.string s] 9)).alloc (.cells #[.func (.func 95) #[] #[]] 135)) (w.heap.size + 1 + 1 + 1) 135 (.func (.func 95) #[] #[]) := by
    have := Boxed.new (((w.alloc (.cells #[.bool false] 4)).alloc (.cells #[.int .i64 0] 3)).alloc (.cells #[.string s] 9)) 135 (.func (.func 95) #[] #[])
    rwa [World.size_alloc, World.size_alloc, World.size_alloc] at this
  have hb : Below w.heap.size w ((((w.alloc (.cells #[.bool false] 4)).alloc (.cells #[.int .i64 0] 3)).alloc (.cells #[.string s] 9)).alloc (.cells #[.func (.func 95) #[] #[]] 135)) := ((((Below.refl _ w).alloc (Nat.le_refl _) _).alloc (by simp) _).alloc (by simp; omega) _).alloc (by simp; omega) _
  have hV : ((((w.alloc (.cells #[.bool false] 4)).alloc (.cells #[.int .i64 0] 3)).alloc (.cells #[.string s] 9)).alloc (.cells #[.func (.func 95) #[] #[]] 135)).heap.size = w.heap.size + 4 := by simp
  generalize ((((w.alloc (.cells #[.bool false] 4)).alloc (.cells #[.int .i64 0] 3)).alloc (.cells #[.string s] 9)).alloc (.cells #[.func (.func 95) #[] #[]] 135)) = V at bR bP bS bC hb hV ⊢
  have hlen := pieces_len slashB s.data.toList
  rw [size_list] at hlen
  refine wpIn_range (gf := 110) rfl (enters_of Tryz.func110 (by kernel_rfl) rfl) (between1_tells 8 s hs slashB 95 (enters_of Tryz.func95 (by kernel_rfl) rfl) isSlash_any (w.heap.size + 1 + 1) (w.heap.size + 1 + 1 + 1) V bS bC) (Kept.refl _ _) ?_ (fun _ => rfl)
    (PathI w.heap.size w.heap.size w) (PathX w.heap.size w.heap.size w) (pathI_abides _ _ _ (Nat.le_refl _)) (pathX_abides _ _ _ (Nat.le_refl _)) ⟨⟨bR, bP, ?_, ?_⟩, rfl, hb, ?_⟩
    (fun x => { tmps := #[.string s, undef, .pointer (some ⟨w.heap.size, 0, none⟩), .pointer (some ⟨w.heap.size + 1, 0, none⟩), .string x, .string s, .int .i64 s.size, .bool false, .bool false, .string s, .bool true, .bool false, .bool false, .string s, .func (.func 110) #[] #[.pointer (some ⟨w.heap.size + 1 + 1, 0, none⟩), .pointer (some ⟨w.heap.size + 1 + 1 + 1, 0, none⟩)], .string x, undef, undef, undef, undef, undef, undef, undef, undef, undef, undef, undef, undef, undef, undef], defers := [] }) ?assign ?body ?done ?stop
  case assign =>
    intro l x U K hK
    gi_wp2
    exact hK
  case body =>
    rintro l' X pre x U ⟨⟨h1, h2, h3, h4⟩, h5, h6, h7⟩ hpre
    have hc1 := h1.cell
    have hf1 := h1.frozen
    have hc2 := h2.cell
    have hf2 := h2.frozen
    have hpl : pre.length + 1 ≤ 101 := by have := hpre.length_le; simp at this; omega
    have H5 := Lib.hid h5; clear h5
    have leave : partB x = false → ∀ a, roundOut X (PathI w.heap.size w.heap.size w) (PathX w.heap.size w.heap.size w) (pre ++ [x]) U .ret a (U.setCell ⟨w.heap.size, 0, none⟩ (.bool false)) := fun hx _ =>
      ⟨Kept.setCell _ _ _ h3, rfl, ⟨h1.set _, h3⟩, by simp [hx], h6.setCell (p := ⟨w.heap.size, 0, none⟩) (Nat.le_refl _) _, h7⟩
    by_cases g1 : x.toList = []
    · have L := Lib.hid (leave (by simp [partB, g1])); clear leave
      gi_wp2
      exact L.out _
    have e1 : x.toList.isEmpty = false := by simpa using g1
    by_cases g2 : x.toList = [46]
    · have L := Lib.hid (leave (by simp [partB, g2]))
      have e2 : (x.toList == [46]) = true := by simp [g2]
      clear leave g1 g2
      gi_wp2
      exact L.out _
    have e2 : (x.toList == [46]) = false := by simpa using g2
    by_cases g3 : x.toList = [46, 46]
    · have L := Lib.hid (leave (by simp [partB, g3]))
      have e3 : (x.toList == [46, 46]) = true := by simp [g3]
      clear leave g1 g2 g3
      gi_wp2
      exact L.out _
    have e3 : (x.toList == [46, 46]) = false := by simpa using g3
    have HX : Hid (partB x = true) := by show partB x = true; simp [partB, g1, g2, g3]
    clear leave g1 g2 g3
    gi_wp2
    refine ⟨Kept.setCell _ _ _ h4, ⟨h1.other (by omega) _, ?_, h3, h4⟩, by rw [List.all_append, H5.out]; simp [HX.out], h6.setCell (p := ⟨w.heap.size + 1, 0, none⟩) (by simp) _, h7⟩
    have := h2.set (.int .i64 (pre.length + 1))
    simpa using this
  case done =>
    rintro D X U hD hXD ⟨⟨h1, h2, h3, h4⟩, h5, h6, h7⟩ hK
    have hc1 := h1.cell
    have hf1 := h1.frozen
    have hc2 := h2.cell
    have H5 := Lib.hid h5; clear h5
    gi_wp2
    have hb1 := h1.set (.bool (decide (((pieces slashB s.data.toList).length : Int) ≤ 8)))
    have hK1 := (Below.heap_setCell U ⟨w.heap.size, 0, none⟩ (.bool (decide (((pieces slashB s.data.toList).length : Int) ≤ 8))) D (by show D ≠ w.heap.size; omega)).trans hK
    have hB1 := h6.setCell (p := ⟨w.heap.size, 0, none⟩) (Nat.le_refl _) (.bool (decide (((pieces slashB s.data.toList).length : Int) ≤ 8)))
    generalize U.setCell ⟨w.heap.size, 0, none⟩ (.bool (decide (((pieces slashB s.data.toList).length : Int) ≤ 8))) = U1 at hb1 hK1 hB1 ⊢
    refine ⟨by simp, .inl ⟨_, _, rfl, run_takeDeferred hK1, ?_⟩⟩
    have hcc := ((Turned.putObj (X := fun j => j = D) U1 D (.deferred none) rfl).boxed hb1 (by show w.heap.size ≠ D; omega)).cell
    have hBB := hB1.trans ((Turned.putObj (X := fun j => j = D) U1 D (.deferred none) rfl).below (by have := hB1.size; omega) (by rintro k rfl; omega))
    refine ⟨.bool (decide (((pieces slashB s.data.toList).length : Int) ≤ 8)), by simp [results, Tryz.results69, go_sem, hcc], ret_bool ?_, hBB⟩
    rw [H5.out]
    simp
    omega
  case stop =>
    rintro D X c pre U hD hXD hpre ⟨rfl, ⟨h1, h3⟩, h5, h6, h7⟩ hK
    gi_wp2
    refine ⟨by simp, .inl ⟨_, _, rfl, run_takeDeferred hK, ?_⟩⟩
    have hcc := ((Turned.putObj (X := fun j => j = D) U D (.deferred none) rfl).boxed h1 (by show w.heap.size ≠ D; omega)).cell
    have hBB := h6.trans ((Turned.putObj (X := fun j => j = D) U D (.deferred none) rfl).below (by have := h6.size; omega) (by rintro k rfl; omega))
    refine ⟨.bool false, by simp [results, Tryz.results69, go_sem, hcc], ret_bool ?_, hBB⟩
    obtain ⟨r, hr⟩ := hpre
    rw [← hr, List.all_append, h5]
    rfl
  · rintro k (rfl | rfl) <;> omega
  · rintro (h | h) <;> omega
  · rintro (h | h) <;> omega
  · rintro k (rfl | rfl) <;> omega
theorem path_any (s : ByteArray) (hs : s.size ≤ maxLen) (w : World) : Calls Tryz.prog 69 #[.string s] w fun e w' => e = .returned (.bool (pathB s.data.toList)) ∧ Below w.heap.size w w' := by
  have hl := size_list s
  by_cases h : s.size ≤ 100
  · cases hp : allB plainB s.data.toList with
    | false =>
      have e : pathB s.data.toList = false := by simp [pathB, hp]
      rw [e]; exact path_unplain s h hp w
    | true =>
      have e : pathB s.data.toList = (((pieces slashB s.data.toList).map txt).all partB && decide ((pieces slashB s.data.toList).length ≤ 8)) := by unfold pathB; rw [hp, hl]; simp [h]
      rw [e]; exact path_parts s h hp w
  · have e : pathB s.data.toList = false := by unfold pathB; rw [hl]; simp [h]
    rw [e]; exact path_long s hs (by omega) w

end Go.Proofs.YtchnbnmajagpjaaGreatDoor

namespace Go.Proofs.YtchnbnmajagpjaaGreatDoor
open Go.RowKit Go.Shelf

set_option maxHeartbeats 400000 in
theorem digit_any (c : UInt8) (w : World) : Calls Tryz.prog 102 #[.int .u8 (c.toNat : Int)] w fun e w' => e = .returned (.bool (digB c)) ∧ w = w' := by
  by_cases h1 : 48 ≤ c.toNat <;> by_cases h2 : c.toNat ≤ 57
  all_goals first
    | (exfalso; omega)
    | (go_enter Tryz.func102, Tryz.ntmps102
       go_wp2
       go_ret
       exact ⟨ret_bool (by rw [Bool.eq_iff_iff]; simp [digB]; omega), rfl⟩)
theorem digit_t (c : UInt8) (w : World) (h : digB c = true) : Calls Tryz.prog 102 #[.int .u8 (c.toNat : Int)] w fun e w' => e = .returned (.bool true) ∧ w = w' := by
  have := digit_any c w; rwa [h] at this
theorem digit_f (c : UInt8) (w : World) (h : digB c = false) : Calls Tryz.prog 102 #[.int .u8 (c.toNat : Int)] w fun e w' => e = .returned (.bool false) ∧ w = w' := by
  have := digit_any c w; rwa [h] at this
set_option maxHeartbeats 1000000 in
theorem refPlain_letter (c : UInt8) (w : World) (h : letB c = true) : Calls Tryz.prog 77 #[.int .u8 (c.toNat : Int)] w fun e w' => e = .returned (.bool true) ∧ w = w' := by
  have hl : 65 ≤ c.toNat ∧ c.toNat ≤ 90 ∨ 97 ≤ c.toNat ∧ c.toNat ≤ 122 := by simpa [letB] using h
  clear h
  rcases hl with ⟨h1, h2⟩ | ⟨h1, h2⟩
  · go_enter Tryz.func77, Tryz.ntmps77
    go_wp2
    go_ret
    exact ⟨rfl, rfl⟩
  · have h3 : 65 ≤ c.toNat := by omega
    have h4 : ¬ c.toNat ≤ 90 := by omega
    go_enter Tryz.func77, Tryz.ntmps77
    go_wp2
    go_ret
    exact ⟨rfl, rfl⟩
set_option maxHeartbeats 2000000 in
theorem refPlain_other (c : UInt8) (w : World) (h : letB c = false) : Calls Tryz.prog 77 #[.int .u8 (c.toNat : Int)] w fun e w' => e = .returned (.bool (plainB c)) ∧ w = w' := by
  have hl : ¬ (65 ≤ c.toNat ∧ c.toNat ≤ 90 ∨ 97 ≤ c.toNat ∧ c.toNat ≤ 122) := by simpa [letB] using h
  have HL := Lib.hid h; clear h
  have HQ := Lib.hid hl
  have tests : (decide (65 ≤ (c.toNat : Int)) = false ∧ decide (97 ≤ (c.toNat : Int)) = false) ∨ (decide (65 ≤ (c.toNat : Int)) = true ∧ decide ((c.toNat : Int) ≤ 90) = false ∧ decide (97 ≤ (c.toNat : Int)) = false) ∨ (decide (65 ≤ (c.toNat : Int)) = true ∧ decide ((c.toNat : Int) ≤ 90) = false ∧ decide (97 ≤ (c.toNat : Int)) = true ∧ decide ((c.toNat : Int) ≤ 122) = false) := by
    simp only [decide_eq_true_eq, decide_eq_false_iff_not]; omega
  clear hl
  cases hd : digB c with
  | true =>
    have HD := Lib.hid hd; clear hd
    rcases tests with ⟨h1, h2⟩ | ⟨h1, h2, h3⟩ | ⟨h1, h2, h3, h4⟩
    all_goals
      go_enter Tryz.func77, Tryz.ntmps77
      go_wp2_with (go_at_call 102; refine (digit_t _ _ HD.out).mono ?_; rintro e w' ⟨rfl, rfl⟩)
      go_ret
      exact ⟨ret_bool (by simp [plainB, HD.out]), rfl⟩
  | false =>
    have HD := Lib.hid hd; clear hd
    by_cases g0 : c.toNat = 95
    · have e95 : ((c.toNat : Int) == 95) = true := by simp; omega
      have HG := Lib.hid g0; clear g0
      rcases tests with ⟨h1, h2⟩ | ⟨h1, h2, h3⟩ | ⟨h1, h2, h3, h4⟩
      all_goals
        go_enter Tryz.func77, Tryz.ntmps77
        go_wp2_with (go_at_call 102; refine (digit_f _ _ HD.out).mono ?_; rintro e w' ⟨rfl, rfl⟩)
        go_ret
        exact ⟨ret_bool (by simp [plainB, HG.out]), rfl⟩
    by_cases g1 : c.toNat = 45
    · have e95 : ((c.toNat : Int) == 95) = false := by simp; omega
      have e45 : ((c.toNat : Int) == 45) = true := by simp; omega
      have HG := Lib.hid g1; clear g0 g1
      rcases tests with ⟨h1, h2⟩ | ⟨h1, h2, h3⟩ | ⟨h1, h2, h3, h4⟩
      all_goals
        go_enter Tryz.func77, Tryz.ntmps77
        go_wp2_with (go_at_call 102; refine (digit_f _ _ HD.out).mono ?_; rintro e w' ⟨rfl, rfl⟩)
        go_ret
        exact ⟨ret_bool (by simp [plainB, HG.out]), rfl⟩
    by_cases g2 : c.toNat = 46
    · have e95 : ((c.toNat : Int) == 95) = false := by simp; omega
      have e45 : ((c.toNat : Int) == 45) = false := by simp; omega
      have e46 : ((c.toNat : Int) == 46) = true := by simp; omega
      have HG := Lib.hid g2; clear g0 g1 g2
      rcases tests with ⟨h1, h2⟩ | ⟨h1, h2, h3⟩ | ⟨h1, h2, h3, h4⟩
      all_goals
        go_enter Tryz.func77, Tryz.ntmps77
        go_wp2_with (go_at_call 102; refine (digit_f _ _ HD.out).mono ?_; rintro e w' ⟨rfl, rfl⟩)
        go_ret
        exact ⟨ret_bool (by simp [plainB, HG.out]), rfl⟩
    by_cases g3 : c.toNat = 47
    · have e95 : ((c.toNat : Int) == 95) = false := by simp; omega
      have e45 : ((c.toNat : Int) == 45) = false := by simp; omega
      have e46 : ((c.toNat : Int) == 46) = false := by simp; omega
      have e47 : ((c.toNat : Int) == 47) = true := by simp; omega
      have HG := Lib.hid g3; clear g0 g1 g2 g3
      rcases tests with ⟨h1, h2⟩ | ⟨h1, h2, h3⟩ | ⟨h1, h2, h3, h4⟩
      all_goals
        go_enter Tryz.func77, Tryz.ntmps77
        go_wp2_with (go_at_call 102; refine (digit_f _ _ HD.out).mono ?_; rintro e w' ⟨rfl, rfl⟩)
        go_ret
        exact ⟨ret_bool (by simp [plainB, HG.out]), rfl⟩
    have e95 : ((c.toNat : Int) == 95) = false := by simp; omega
    have e45 : ((c.toNat : Int) == 45) = false := by simp; omega
    have e46 : ((c.toNat : Int) == 46) = false := by simp; omega
    have e47 : ((c.toNat : Int) == 47) = false := by simp; omega
    have G0 := Lib.hid g0
    have G1 := Lib.hid g1
    have G2 := Lib.hid g2
    have G3 := Lib.hid g3
    clear g0 g1 g2 g3
    rcases tests with ⟨h1, h2⟩ | ⟨h1, h2, h3⟩ | ⟨h1, h2, h3, h4⟩
    all_goals
      go_enter Tryz.func77, Tryz.ntmps77
      go_wp2_with (go_at_call 102; refine (digit_f _ _ HD.out).mono ?_; rintro e w' ⟨rfl, rfl⟩)
      go_ret
      exact ⟨ret_bool (by simp [plainB, HL.out, HD.out, G0.out, G1.out, G2.out, G3.out]; exact nat_beq c.toNat 43), rfl⟩
theorem refPlain_any (c : UInt8) (w : World) : Calls Tryz.prog 77 #[.int .u8 (c.toNat : Int)] w fun e w' => e = .returned (.bool (plainB c)) ∧ w = w' := by
  cases h : letB c with
  | false => exact refPlain_other c w h
  | true =>
    have e : plainB c = true := by simp [plainB, h]
    rw [e]; exact refPlain_letter c w h
theorem refPlain_t (c : UInt8) (w : World) (h : plainB c = true) : Calls Tryz.prog 77 #[.int .u8 (c.toNat : Int)] w fun e w' => e = .returned (.bool true) ∧ w = w' := by
  have := refPlain_any c w; rwa [h] at this
theorem refPlain_f (c : UInt8) (w : World) (h : plainB c = false) : Calls Tryz.prog 77 #[.int .u8 (c.toNat : Int)] w fun e w' => e = .returned (.bool false) ∧ w = w' := by
  have := refPlain_any c w; rwa [h] at this

end Go.Proofs.YtchnbnmajagpjaaGreatDoor

namespace Go.Proofs.YtchnbnmajagpjaaGreatDoor
open Go.RowKit Go.Shelf

def partL (p : List UInt8) : Bool := !(p == [] || p == [46] || p == [46, 46])
theorem pathB_eq (l : List UInt8) : pathB l = (decide (l.length ≤ 100) && allB plainB l && (pieces slashB l).all partL && decide ((pieces slashB l).length ≤ 8)) := by
  unfold pathB
  rw [List.all_map]
  congr 3
  funext p
  simp [partB, partL, txt_toL]
theorem take_more (l : List UInt8) (a m : Nat) (ham : a ≤ m) (hm : m < l.length) : (l.drop a).take (m + 1 - a) = (l.drop a).take (m - a) ++ [l[m]] := by
  rw [show m + 1 - a = (m - a) + 1 by omega, List.take_succ_eq_append_getElem (by simp; omega)]
  simp [show a + (m - a) = m by omega]
/-- Where the document's loop stands: ahead of byte m, the part that begins at a is under way; or behind the last part. -/
def RefAt (l : List UInt8) (m : Nat) (P : Nat) (part : ByteArray) : Prop :=
  (∃ (a : Nat) (pre : List (List UInt8)), a ≤ m ∧ m ≤ l.length ∧ (∀ c ∈ (l.drop a).take (m - a), slashB c = false) ∧ part = txt ((l.drop a).take (m - a)) ∧ pieces slashB l = pre ++ pieces slashB (l.drop a) ∧ pre.length = P ∧ pre.all partL = true ∧ allB plainB (l.take m) = true) ∨
  (m = l.length + 1 ∧ P = (pieces slashB l).length ∧ (pieces slashB l).all partL = true ∧ allB plainB l = true)
theorem partL_txt (p : List UInt8) : partB (txt p) = partL p := by simp [partB, partL, txt_toL]
theorem refAt_start (l : List UInt8) : RefAt l 0 0 (txt []) := .inl ⟨0, [], Nat.le_refl _, Nat.zero_le _, by simp, by simp, by simp, rfl, rfl, by simp [allB]⟩
theorem refAt_len {l : List UInt8} {m P : Nat} {part : ByteArray} (h : RefAt l m P part) : m ≤ l.length + 1 ∧ P ≤ l.length + 1 ∧ part.size ≤ l.length ∨ m = l.length + 1 ∧ P ≤ l.length + 1 := by
  have hp := pieces_len slashB l
  rcases h with ⟨a, pre, h1, h2, _, h4, h5, h6, _, _⟩ | ⟨h1, h2, _⟩
  · left
    refine ⟨by omega, ?_, ?_⟩
    · have := congrArg List.length h5
      rw [List.length_append] at this
      omega
    · rw [h4, txt_size]; simp; omega
  · right; exact ⟨h1, by omega⟩
theorem refAt_unplain {l : List UInt8} {m : Nat} (hm : m < l.length) (hc : plainB l[m] = false) : pathB l = false := by
  have : allB plainB l = false := all_not hm hc
  simp [pathB, this]
theorem refAt_more {l : List UInt8} {m P : Nat} {part : ByteArray} (h : RefAt l m P part) (hm : m < l.length) (hc : plainB l[m] = true) (hs : slashB l[m] = false) : RefAt l (m + 1) P (part ++ txt [l[m]]) := by
  rcases h with ⟨a, pre, h1, h2, h3, h4, h5, h6, h7, h8⟩ | ⟨h1, _⟩
  · refine .inl ⟨a, pre, by omega, hm, none_next slashB l a m h1 hm h3 hs, ?_, h5, h6, h7, all_take h8 hm hc⟩
    rw [h4, txt_append, take_more l a m h1 hm]
  · omega
theorem refAt_cut {l : List UInt8} {m P : Nat} {part : ByteArray} (h : RefAt l m P part) (hm : m < l.length) (hc : plainB l[m] = true) (hs : slashB l[m] = true) (hp : partB part = true) : RefAt l (m + 1) (P + 1) (txt []) := by
  rcases h with ⟨a, pre, h1, h2, h3, h4, h5, h6, h7, h8⟩ | ⟨h1, _⟩
  · refine .inl ⟨m + 1, pre ++ [(l.drop a).take (m - a)], Nat.le_refl _, hm, by simp, by simp, ?_, by simp [h6], ?_, all_take h8 hm hc⟩
    · rw [h5, cut_at slashB l a m h1 hm h3 hs]; simp
    · rw [h4, partL_txt] at hp
      rw [List.all_append, h7]; simp [hp]
  · omega
theorem refAt_last {l : List UInt8} {P : Nat} {part : ByteArray} (h : RefAt l l.length P part) (hp : partB part = true) : RefAt l (l.length + 1) (P + 1) (txt []) := by
  rcases h with ⟨a, pre, h1, h2, h3, h4, h5, h6, h7, h8⟩ | ⟨h1, _⟩
  · have ht : (l.drop a).take (l.length - a) = l.drop a := List.take_of_length_le (by rw [List.length_drop]; exact Nat.le_refl _)
    rw [ht] at h3 h4
    rw [pieces_none slashB _ h3] at h5
    rw [h4, partL_txt] at hp
    rw [List.take_length] at h8
    exact .inr ⟨rfl, by rw [h5]; simp [h6], by rw [h5, List.all_append, h7]; simp [hp], h8⟩
  · omega
theorem refAt_bad {l : List UInt8} {m P : Nat} {part : ByteArray} (h : RefAt l m P part) (hm : m = l.length ∨ ∃ hlt : m < l.length, slashB l[m] = true) (hp : partB part = false) : pathB l = false := by
  rcases h with ⟨a, pre, h1, h2, h3, h4, h5, h6, h7, h8⟩ | ⟨h1, _⟩
  · rw [h4, partL_txt] at hp
    have hbad : (pieces slashB l).all partL = false := by
      rcases hm with rfl | ⟨hlt, hs⟩
      · have ht : (l.drop a).take (l.length - a) = l.drop a := List.take_of_length_le (by rw [List.length_drop]; exact Nat.le_refl _)
        rw [ht] at h3 hp
        rw [h5, pieces_none slashB _ h3, List.all_append]; simp [hp]
      · rw [h5, cut_at slashB l a m h1 hlt h3 hs, List.all_append]; simp [hp]
    rw [pathB_eq, hbad]; simp
  · rcases hm with hm | ⟨hlt, _⟩ <;> omega
theorem refAt_end {l : List UInt8} {P : Nat} {part : ByteArray} (h : RefAt l (l.length + 1) P part) (hl : l.length ≤ 100) : pathB l = decide (P ≤ 8) := by
  rcases h with ⟨a, pre, h1, h2, _⟩ | ⟨h1, h2, h3, h4⟩
  · omega
  · rw [pathB_eq, h3, h4, h2]; simp [hl]
def PathPost (s : ByteArray) (w : World) (e : Ending) (w' : World) : Prop := e = .returned (.bool (pathB s.data.toList)) ∧ w = w'
theorem path_no {s : ByteArray} {w : World} (h : pathB s.data.toList = false) : PathPost s w (.returned (.bool false)) w := ⟨by rw [h], rfl⟩
set_option maxRecDepth 100000 in
set_option maxHeartbeats 2000000 in
theorem refPath_short (s : ByteArray) (h : s.size < 1 ∨ 100 < s.size) (w : World) : Calls Tryz.prog 49 #[.string s] w (PathPost s w) := by
  have hsl := size_list s
  have HN := Lib.hid (path_no (s := s) (w := w) (by
    rcases h with h | h
    · have : s.data.toList = [] := List.eq_nil_of_length_eq_zero (by omega)
      rw [this, pathB_eq]; decide
    · unfold pathB; rw [hsl]; simp; omega))
  clear hsl
  rcases h with h | h
  · have e1 : decide ((s.size : Int) < 1) = true := by simp; omega
    go_enter Tryz.func49, Tryz.ntmps49
    go_wp2
    go_ret
    exact HN.out
  · have e1 : decide ((s.size : Int) < 1) = false := by simp; omega
    have e2 : decide (100 < (s.size : Int)) = true := by simp; omega
    go_enter Tryz.func49, Tryz.ntmps49
    go_wp2
    go_ret
    exact HN.out
set_option maxRecDepth 100000 in
set_option maxHeartbeats 2000000 in
theorem refPath_loop (s : ByteArray) (h1 : 1 ≤ s.size) (h2 : s.size ≤ 100) (w : World) : Calls Tryz.prog 49 #[.string s] w (PathPost s w) := by
  have HS := Lib.hid (size_list s)
  have e1 : decide ((s.size : Int) < 1) = false := by simp; omega
  have e2 : decide (100 < (s.size : Int)) = false := by simp; omega
  go_enter Tryz.func49, Tryz.ntmps49
  go_wp2
  go_loop [3, 4, 5] (fun p t i => ∃ (m P : Nat) (part : ByteArray), i = .int .i64 m ∧ p = .int .i64 P ∧ t = .string part ∧ RefAt s.data.toList m P part ∧ (m ≤ s.size + 1 ∧ P ≤ 101)) (fun _ _ i => s.size + 1 - (intOf i).toNat)
  case atStart =>
    exact ⟨0, 0, txt [], rfl, rfl, rfl, refAt_start _, by omega, by omega⟩
  case round =>
    obtain ⟨m, P, part, rfl, rfl, rfl, hat, hm1, hP⟩ := hrel
    have HA := Lib.hid hat; clear hat
    by_cases hlt : m < s.size
    · have hlt' : m < s.data.toList.length := by rw [Array.length_toList]; exact hlt
      have hgk : s.data.toList[m] = s[m] := by rw [Array.getElem_toList]; rfl
      cases hp : plainB s[m] with
      | false =>
        have HN := Lib.hid (path_no (s := s) (w := w) (refAt_unplain hlt' (by rw [hgk]; exact hp)))
        have HP := Lib.hid hp; clear hp hgk
        go_wp2_with (go_at_call 77; refine (refPlain_f _ _ HP.out).mono ?_; rintro e w' ⟨rfl, rfl⟩)
        go_ret
        exact HN.out
      | true =>
        have HP := Lib.hid hp
        by_cases hsl : s[m].toNat = 47
        · have e3 : ((s[m].toNat : Int) != 47) = false := by simp; omega
          have hcut : slashB s.data.toList[m] = true := by rw [hgk]; simp [slashB, hsl]
          have hpl : plainB s.data.toList[m] = true := by rw [hgk]; exact hp
          clear hp hsl hgk
          cases hq : partB part with
          | false =>
            have HN := Lib.hid (path_no (s := s) (w := w) (refAt_bad HA.out (.inr ⟨hlt', hcut⟩) hq))
            by_cases g1 : part.toList = []
            · clear hq
              go_wp2_with (go_at_call 77; refine (refPlain_t _ _ HP.out).mono ?_; rintro e w' ⟨rfl, rfl⟩)
              go_ret
              exact HN.out
            have f1 : part.toList.isEmpty = false := by simpa using g1
            by_cases g2 : part.toList = [46]
            · have f2 : (part.toList == [46]) = true := by simp [g2]
              clear hq g1 g2
              go_wp2_with (go_at_call 77; refine (refPlain_t _ _ HP.out).mono ?_; rintro e w' ⟨rfl, rfl⟩)
              go_ret
              exact HN.out
            have f2 : (part.toList == [46]) = false := by simpa using g2
            have f3 : (part.toList == [46, 46]) = true := by simpa [partB, g1, g2] using hq
            clear hq g1 g2
            go_wp2_with (go_at_call 77; refine (refPlain_t _ _ HP.out).mono ?_; rintro e w' ⟨rfl, rfl⟩)
            go_ret
            exact HN.out
          | true =>
            have g : part.toList.isEmpty = false ∧ (part.toList == [46]) = false ∧ (part.toList == [46, 46]) = false := by
              simp only [partB, Bool.not_eq_true', Bool.or_eq_false_iff] at hq
              exact ⟨by simpa using hq.1.1, hq.1.2, hq.2⟩
            obtain ⟨f1, f2, f3⟩ := g
            have hN := refAt_cut HA.out hlt' hpl hcut hq
            have hb := refAt_len hN
            rw [HS.out] at hb
            have hb2 : m + 1 ≤ s.size + 1 ∧ P + 1 ≤ 101 := by omega
            have HN := Lib.hid hN
            clear hq hN hb
            go_wp2_with (go_at_call 77; refine (refPlain_t _ _ HP.out).mono ?_; rintro e w' ⟨rfl, rfl⟩)
            go_round
            case rel => exact ⟨m + 1, P + 1, ⟨#[]⟩, by go_num, by go_num, rfl, HN.out, hb2⟩
            case measure => simp [intOf]; omega
        · have e3 : ((s[m].toNat : Int) != 47) = true := by simp; omega
          have hN := refAt_more HA.out hlt' (by rw [hgk]; exact hp) (by rw [hgk]; simp [slashB, hsl])
          have hb := refAt_len hN
          rw [HS.out] at hb
          have hb2 : m + 1 ≤ s.size + 1 ∧ P ≤ 101 := by omega
          have hb0 := refAt_len HA.out
          rw [HS.out] at hb0
          have hcat : ¬ 9223372036854775807 < part.size + (min (m + 1) s.size - m) := by omega
          rw [hgk, ← extract_one s m hlt] at hN
          have HN := Lib.hid hN
          clear hp hsl hgk hN hb hb0
          go_wp2_with (go_at_call 77; refine (refPlain_t _ _ HP.out).mono ?_; rintro e w' ⟨rfl, rfl⟩)
          go_round
          case rel => exact ⟨m + 1, P, _, by go_num, rfl, rfl, HN.out, hb2⟩
          case measure => simp [intOf]; omega
    · by_cases hend : m = s.size
      · subst hend
        rw [← HS.out] at HA
        cases hq : partB part with
        | false =>
          have HN := Lib.hid (path_no (s := s) (w := w) (refAt_bad HA.out (.inl rfl) hq))
          by_cases g1 : part.toList = []
          · clear hq
            go_wp2
            go_ret
            exact HN.out
          have f1 : part.toList.isEmpty = false := by simpa using g1
          by_cases g2 : part.toList = [46]
          · have f2 : (part.toList == [46]) = true := by simp [g2]
            clear hq g1 g2
            go_wp2
            go_ret
            exact HN.out
          have f2 : (part.toList == [46]) = false := by simpa using g2
          have f3 : (part.toList == [46, 46]) = true := by simpa [partB, g1, g2] using hq
          clear hq g1 g2
          go_wp2
          go_ret
          exact HN.out
        | true =>
          have g : part.toList.isEmpty = false ∧ (part.toList == [46]) = false ∧ (part.toList == [46, 46]) = false := by
            simp only [partB, Bool.not_eq_true', Bool.or_eq_false_iff] at hq
            exact ⟨by simpa using hq.1.1, hq.1.2, hq.2⟩
          obtain ⟨f1, f2, f3⟩ := g
          have hN := by have := refAt_last HA.out hq; rwa [HS.out] at this
          have hb := refAt_len hN
          rw [HS.out] at hb
          have hb2 : s.size + 1 ≤ s.size + 1 ∧ P + 1 ≤ 101 := by omega
          have HN := Lib.hid hN
          clear hq hN hb
          go_wp2
          go_round
          case rel => exact ⟨s.size + 1, P + 1, ⟨#[]⟩, by go_num, by go_num, rfl, HN.out, hb2⟩
          case measure => simp [intOf]
      · obtain rfl : m = s.size + 1 := by omega
        have hE := refAt_end (l := s.data.toList) (P := P) (part := part) (by rw [HS.out]; exact HA.out) (by rw [HS.out]; omega)
        have HE := Lib.hid hE
        clear hE
        go_wp2
        go_ret
        exact ⟨ret_bool (by rw [HE.out]; simp; omega), rfl⟩
theorem refPath_any (s : ByteArray) (w : World) : Calls Tryz.prog 49 #[.string s] w fun e w' => e = .returned (.bool (pathB s.data.toList)) ∧ w = w' := by
  by_cases h : 1 ≤ s.size ∧ s.size ≤ 100
  · exact refPath_loop s h.1 h.2 w
  · exact refPath_short s (by omega) w

end Go.Proofs.YtchnbnmajagpjaaGreatDoor
