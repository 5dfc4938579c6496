/-
  A tree as the program keeps it; a change, done.
-/
import Derived.Test.YtginlknlkbhgaaaFRow
import Derived.Test.YtginlknlkbhgaaaFApp
namespace Go.Proofs.Ytginlknlkbhgaaa
open Go.RowKit Go.Shelf Go.Maps

def toOf (c : Ch) : BS := if c.kind = 3 then c.arg else []
def txtOf (c : Ch) : BS := if c.kind ≤ 1 then c.arg else []
def chCells (c : Ch) : List Value := [.int .i64 c.kind, .string (txt c.path), .string (txt (toOf c)), .string (txt (txtOf c)), .int .i64 c.time]

/-- What a change asks of the files that it is done to. -/
def Fits (l : Fs) (c : Ch) : Prop := c.kind ≤ 3 ∧ c.path.length ≤ 1073741824 ∧ c.arg.length ≤ 1073741824 ∧ (c.kind = 1 → (textOf l c.path).length + c.arg.length ≤ 1073741824) ∧ (c.kind = 3 → (look l c.path).isSome = true)

theorem apply_any (b : Nat) (Y : Nat → Prop) (L : FVs) (c : Ch) (w : World) (h : NowR w Y (some b) L) (hn : L.length < 1073741824) (hf : Fits (strip L) c) :
    Calls Try.prog 38 #[.map (some b), .agg (chCells c).toArray] w fun r w' => r = .returned (.tuple #[]) ∧ Applied w Y b (strip L) c w' := by
  obtain ⟨k, p, a, t⟩ := c
  obtain ⟨h1, h2, h3, h4, h5⟩ := hf
  simp only [Ch.kind, Ch.path, Ch.arg] at h1 h2 h3 h4 h5
  have hp : (txt p).size ≤ maxLen := by rw [txt_size]; unfold maxLen; omega
  have ha : (txt a).size ≤ maxLen := by rw [txt_size]; unfold maxLen; omega
  have hn' : L.length < maxLen := by unfold maxLen; omega
  rcases (show k = 0 ∨ k = 1 ∨ k = 2 ∨ k = 3 by omega) with rfl | rfl | rfl | rfl
  · have := apply_write b Y L (txt p) (txt []) (txt a) t w h hp hn'
    rw [txt_data, txt_data] at this
    exact this
  · have := apply_append b Y L (txt p) (txt []) (txt a) t w h hp hn' (by rw [txt_data, txt_size]; have := h4 rfl; omega)
    rw [txt_data, txt_data] at this
    exact this
  · have := apply_remove b Y L (txt p) (txt []) (txt []) t w h hp (a, t)
    rw [txt_data] at this
    exact this
  · have hl := h5 rfl
    rw [strip_look] at hl
    have := apply_rename b Y L (txt p) (txt a) (txt []) t w h hp ha hn' (by rw [txt_data]; cases hx : look L p <;> simp_all)
    rw [txt_data, txt_data] at this
    exact this

def Disj (X Y : Nat → Prop) : Prop := ∀ n, X n → ¬ Y n
theorem Disj.symm {X Y : Nat → Prop} (h : Disj X Y) : Disj Y X := fun n hy hx => h n hx hy

/-- A tree: its cells, its files, those of the last sync, its changes; all its blocks are of X. -/
structure TreeP (w : World) (X : Nat → Prop) (bt : Nat) (room clock : Int) (nm sm : Option Nat) (pv : Value) (YN YS YP : Nat → Prop) (LN LS : FVs) (pend : List Ch) : Prop where
  cells : TreeC w bt room clock nm sm pv
  now : NowR w YN nm LN
  last : NowR w YS sm LS
  row : RowR 72 5 chCells w YP pv pend
  xt : X bt
  xn : ∀ n, YN n → X n
  xs : ∀ n, YS n → X n
  xp : ∀ n, YP n → X n
  tn : ¬ YN bt
  ts : ¬ YS bt
  tp : ¬ YP bt
  ns : Disj YN YS
  np : Disj YN YP
  sp : Disj YS YP
  lt : ∀ n, X n → n < w.heap.size
def TreeR (w : World) (X : Nat → Prop) (bt : Nat) (room clock : Int) (now last : Fs) (pend : List Ch) : Prop :=
  ∃ nm sm pv YN YS YP LN LS, TreeP w X bt room clock nm sm pv YN YS YP LN LS pend ∧ strip LN = now ∧ strip LS = last

theorem TreeP.kept {w w' : World} {X Z : Nat → Prop} {bt : Nat} {room clock : Int} {nm sm : Option Nat} {pv : Value} {YN YS YP : Nat → Prop} {LN LS : FVs} {pend : List Ch} (h : TreeP w X bt room clock nm sm pv YN YS YP LN LS pend) (hT : Turned Z w w') (hd : ∀ n, X n → ¬ Z n) : TreeP w' X bt room clock nm sm pv YN YS YP LN LS pend :=
  ⟨hT.cells h.cells (hd bt h.xt), h.now.kept hT (fun n hn => hd n (h.xn n hn)), h.last.kept hT (fun n hn => hd n (h.xs n hn)), h.row.kept hT (fun n hn => hd n (h.xp n hn)), h.xt, h.xn, h.xs, h.xp, h.tn, h.ts, h.tp, h.ns, h.np, h.sp, fun n hn => Nat.lt_of_lt_of_le (h.lt n hn) hT.size⟩
theorem TreeR.kept {w w' : World} {X Z : Nat → Prop} {bt : Nat} {room clock : Int} {now last : Fs} {pend : List Ch} (h : TreeR w X bt room clock now last pend) (hT : Turned Z w w') (hd : ∀ n, X n → ¬ Z n) : TreeR w' X bt room clock now last pend := by
  obtain ⟨nm, sm, pv, YN, YS, YP, LN, LS, h1, h2⟩ := h
  exact ⟨nm, sm, pv, YN, YS, YP, LN, LS, h1.kept hT hd, h2⟩
theorem turned_below {w w' : World} (h : Below w.heap.size w w') : Turned (fun _ => False) w w' := ⟨h.os, h.tape, h.output, h.size, fun k hk _ => h.block k hk⟩
theorem TreeR.lt {w : World} {X : Nat → Prop} {bt : Nat} {room clock : Int} {now last : Fs} {pend : List Ch} (h : TreeR w X bt room clock now last pend) : ∀ n, X n → n < w.heap.size := by
  obtain ⟨nm, sm, pv, YN, YS, YP, LN, LS, h1, h2⟩ := h
  exact h1.lt
theorem TreeR.below {w w' : World} {X : Nat → Prop} {bt : Nat} {room clock : Int} {now last : Fs} {pend : List Ch} (h : TreeR w X bt room clock now last pend) (hb : Below w.heap.size w w') : TreeR w' X bt room clock now last pend := h.kept (turned_below hb) (fun _ _ => id)
theorem TreeR.has {w : World} {X : Nat → Prop} {bt : Nat} {room clock : Int} {now last : Fs} {pend : List Ch} (h : TreeR w X bt room clock now last pend) : X bt := by
  obtain ⟨nm, sm, pv, YN, YS, YP, LN, LS, h1, h2⟩ := h
  exact h1.xt

/-- What a change's callee leaves of the tree. -/
def Stepped (w : World) (X : Nat → Prop) (bt : Nat) (room clock : Int) (now last : Fs) (pend : List Ch) (w' : World) : Prop :=
  ∃ X', TreeR w' X' bt room clock now last pend ∧ Turned X w w' ∧ ∀ n, X' n → X n ∨ w.heap.size ≤ n

end Go.Proofs.Ytginlknlkbhgaaa
