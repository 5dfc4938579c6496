/-
  The program's nodes as a call makes them: the one that it answers with, and one of its own. No condition.
-/
import Derived.StillTailTactics
import Derived.Deep.RegionHeld3
import Derived.Test.YtldddecaeloohaaDoorQK
import Derived.Test.YtldddecaeloohaaDoorQT
import Derived.Test.YtldddecaeloohaaDoorQN
import Derived.Test.YtldddecaeloohaaDoorQWords
import Derived.Test.YtldddecaeloohaaDoorQBit
namespace Go.Proofs.YtldddecaeloohaaDoor
open Go.RowKit Go.Shelf
attribute [local go_sem] Oper.semAt_some

/-- Two nodes of the call's own: the one that it answers with, and the one that it makes. -/
structure TwoP (w wr : World) (k : Nat) (cs : Array Value) : Prop where
  back : Below w.heap.size w wr
  lt : w.heap.size < k
  zero : ∃ zs : Array Value, zs.size = 10 ∧ wr.heap[w.heap.size]? = some (.cells zs 49 (0, 0))
  own : wr.heap[k]? = some (.cells cs 49 (0, 0))
section
variable {w wr w' : World} {k : Nat} {cs : Array Value}
theorem TwoP.below (h : TwoP w wr k cs) (hb : Below wr.heap.size wr w') : TwoP w w' k cs := by
  obtain ⟨zs, hz1, hz2⟩ := h.zero
  exact ⟨h.back.trans (hb.mono h.back.size), h.lt, ⟨zs, hz1, (hb.block _ (Array.getElem?_eq_some_iff.1 hz2).1).trans hz2⟩, (hb.block _ (Array.getElem?_eq_some_iff.1 h.own).1).trans h.own⟩
theorem TwoP.set (h : TwoP w wr k cs) (j : Nat) (v : Value) : TwoP w (wr.setCell ⟨k, j, none⟩ v) k (cs.set! j v) := by
  obtain ⟨zs, hz1, hz2⟩ := h.zero
  have hne : k ≠ w.heap.size := by have := h.lt; omega
  have ho := h.own
  refine ⟨h.back.trans ((Turned.setCell (X := fun n => w.heap.size ≤ n) wr ⟨k, j, none⟩ v (Nat.le_of_lt h.lt)).below h.back.size fun n hn => hn), h.lt, ⟨zs, hz1, ?_⟩, ?_⟩
  · rw [← hz2]
    generalize w.heap.size = z at hne ⊢
    simp [World.setCell, Array.getElem?_modify, hne]
  · simp [World.setCell, Array.getElem?_modify, ho]
theorem TwoP.cells {v0 v1 v2 v3 v4 v5 v6 v7 v8 v9 : Value} (h : TwoP w wr k #[v0, v1, v2, v3, v4, v5, v6, v7, v8, v9]) : (wr.cell? ⟨k, 0, none⟩ = some v0 ∧ wr.cell? ⟨k, 1, none⟩ = some v1 ∧ wr.cell? ⟨k, 2, none⟩ = some v2 ∧ wr.cell? ⟨k, 3, none⟩ = some v3 ∧ wr.cell? ⟨k, 4, none⟩ = some v4 ∧ wr.cell? ⟨k, 5, none⟩ = some v5 ∧ wr.cell? ⟨k, 6, none⟩ = some v6 ∧ wr.cell? ⟨k, 7, none⟩ = some v7 ∧ wr.cell? ⟨k, 8, none⟩ = some v8 ∧ wr.cell? ⟨k, 9, none⟩ = some v9) ∧ (∀ j, wr.frozen? ⟨k, j, none⟩ = false) := by
  refine ⟨⟨?_, ?_, ?_, ?_, ?_, ?_, ?_, ?_, ?_, ?_⟩, Lib.frozen_of_heap h.own⟩ <;> (rw [Lib.cell_of_heap h.own]; rfl)
theorem TwoP.zcells (h : TwoP w wr k cs) : (∀ j, j < 10 → ∃ v, wr.cell? ⟨w.heap.size, j, none⟩ = some v) ∧ ∀ j, wr.frozen? ⟨w.heap.size, j, none⟩ = false := by
  obtain ⟨zs, hz1, hz2⟩ := h.zero
  refine ⟨fun j hj => ⟨zs[j]'(by omega), ?_⟩, Lib.frozen_of_heap hz2⟩
  rw [Lib.cell_of_heap hz2]; simp
theorem TwoP.done (h : TwoP w wr k cs) (v0 v1 v2 v3 v4 v5 v6 v7 v8 v9 : Value) :
    Below w.heap.size w (doneN wr w.heap.size v0 v1 v2 v3 v4 v5 v6 v7 v8 v9) ∧ (doneN wr w.heap.size v0 v1 v2 v3 v4 v5 v6 v7 v8 v9).heap[w.heap.size]? = some (.cells #[v0, v1, v2, v3, v4, v5, v6, v7, v8, v9] 49 (0, 0)) := by
  obtain ⟨zs, hz1, hz2⟩ := h.zero
  have hT : ∀ (u : World) (j : Nat) (v : Value), Turned (fun n => w.heap.size ≤ n) u (u.setCell ⟨w.heap.size, j, none⟩ v) := fun u j v => Turned.setCell (X := fun n => w.heap.size ≤ n) u ⟨w.heap.size, j, none⟩ v (Nat.le_refl _)
  constructor
  · unfold doneN
    exact h.back.trans ((((((((((((hT _ _ _).trans (hT _ _ _)).trans (hT _ _ _)).trans (hT _ _ _)).trans (hT _ _ _)).trans (hT _ _ _)).trans (hT _ _ _)).trans (hT _ _ _)).trans (hT _ _ _)).trans (hT _ _ _)).below h.back.size fun n hn => hn))
  · unfold doneN
    generalize w.heap.size = z at hz2 ⊢
    obtain ⟨l, rfl⟩ : ∃ l : List Value, zs = l.toArray := ⟨zs.toList, by simp⟩
    match l, hz1 with
    | [a0, a1, a2, a3, a4, a5, a6, a7, a8, a9], _ =>
      simp [World.setCell, Array.getElem?_modify, hz2]
end
theorem TwoP.fin {w wr : World} {k : Nat} {cs : Array Value} (h : TwoP w wr k cs) (v0 v1 v2 v3 v4 v5 v6 v7 v8 v9 : Value) :
    Below w.heap.size w (doneN wr w.heap.size v0 v1 v2 v3 v4 v5 v6 v7 v8 v9) ∧ (doneN wr w.heap.size v0 v1 v2 v3 v4 v5 v6 v7 v8 v9).cell? ⟨w.heap.size, 0, none⟩ = some v0 ∧ (doneN wr w.heap.size v0 v1 v2 v3 v4 v5 v6 v7 v8 v9).cell? ⟨w.heap.size, 1, none⟩ = some v1 ∧ (doneN wr w.heap.size v0 v1 v2 v3 v4 v5 v6 v7 v8 v9).cell? ⟨w.heap.size, 2, none⟩ = some v2 ∧ (doneN wr w.heap.size v0 v1 v2 v3 v4 v5 v6 v7 v8 v9).cell? ⟨w.heap.size, 3, none⟩ = some v3 ∧ (doneN wr w.heap.size v0 v1 v2 v3 v4 v5 v6 v7 v8 v9).cell? ⟨w.heap.size, 4, none⟩ = some v4 ∧ (doneN wr w.heap.size v0 v1 v2 v3 v4 v5 v6 v7 v8 v9).cell? ⟨w.heap.size, 5, none⟩ = some v5 ∧ (doneN wr w.heap.size v0 v1 v2 v3 v4 v5 v6 v7 v8 v9).cell? ⟨w.heap.size, 6, none⟩ = some v6 ∧ (doneN wr w.heap.size v0 v1 v2 v3 v4 v5 v6 v7 v8 v9).cell? ⟨w.heap.size, 7, none⟩ = some v7 ∧ (doneN wr w.heap.size v0 v1 v2 v3 v4 v5 v6 v7 v8 v9).cell? ⟨w.heap.size, 8, none⟩ = some v8 ∧ (doneN wr w.heap.size v0 v1 v2 v3 v4 v5 v6 v7 v8 v9).cell? ⟨w.heap.size, 9, none⟩ = some v9 := by
  obtain ⟨h1, h2⟩ := h.done v0 v1 v2 v3 v4 v5 v6 v7 v8 v9
  refine ⟨h1, ?_, ?_, ?_, ?_, ?_, ?_, ?_, ?_, ?_, ?_⟩ <;> (rw [Lib.cell_of_heap h2]; rfl)
/-- .. behind a draw. -/
theorem TwoP.finD {w wr : World} {k : Nat} {cs : Array Value} (h : TwoP w wr k cs) (v0 v1 v2 v3 v4 v5 v6 v7 v8 v9 : Value) :
    Below w.heap.size w (doneN wr w.heap.size v0 v1 v2 v3 v4 v5 v6 v7 v8 v9).drew ∧ (doneN wr w.heap.size v0 v1 v2 v3 v4 v5 v6 v7 v8 v9).drew.cell? ⟨w.heap.size, 0, none⟩ = some v0 ∧ (doneN wr w.heap.size v0 v1 v2 v3 v4 v5 v6 v7 v8 v9).drew.cell? ⟨w.heap.size, 1, none⟩ = some v1 ∧ (doneN wr w.heap.size v0 v1 v2 v3 v4 v5 v6 v7 v8 v9).drew.cell? ⟨w.heap.size, 2, none⟩ = some v2 ∧ (doneN wr w.heap.size v0 v1 v2 v3 v4 v5 v6 v7 v8 v9).drew.cell? ⟨w.heap.size, 3, none⟩ = some v3 ∧ (doneN wr w.heap.size v0 v1 v2 v3 v4 v5 v6 v7 v8 v9).drew.cell? ⟨w.heap.size, 4, none⟩ = some v4 ∧ (doneN wr w.heap.size v0 v1 v2 v3 v4 v5 v6 v7 v8 v9).drew.cell? ⟨w.heap.size, 5, none⟩ = some v5 ∧ (doneN wr w.heap.size v0 v1 v2 v3 v4 v5 v6 v7 v8 v9).drew.cell? ⟨w.heap.size, 6, none⟩ = some v6 ∧ (doneN wr w.heap.size v0 v1 v2 v3 v4 v5 v6 v7 v8 v9).drew.cell? ⟨w.heap.size, 7, none⟩ = some v7 ∧ (doneN wr w.heap.size v0 v1 v2 v3 v4 v5 v6 v7 v8 v9).drew.cell? ⟨w.heap.size, 8, none⟩ = some v8 ∧ (doneN wr w.heap.size v0 v1 v2 v3 v4 v5 v6 v7 v8 v9).drew.cell? ⟨w.heap.size, 9, none⟩ = some v9 := by
  obtain ⟨h1, r0, r1, r2, r3, r4, r5, r6, r7, r8, r9⟩ := h.fin v0 v1 v2 v3 v4 v5 v6 v7 v8 v9
  have e : ∀ (u : World) a, u.drew.cell? a = u.cell? a := fun _ _ => rfl
  exact ⟨below_drewE h1, (e _ _).trans r0, (e _ _).trans r1, (e _ _).trans r2, (e _ _).trans r3, (e _ _).trans r4, (e _ _).trans r5, (e _ _).trans r6, (e _ _).trans r7, (e _ _).trans r8, (e _ _).trans r9⟩
/-- .. where there is no node of the call's own yet. -/
theorem finP0 {w wr : World} (hb : Below w.heap.size w wr) (hz : ∃ zs : Array Value, zs.size = 10 ∧ wr.heap[w.heap.size]? = some (.cells zs 49 (0, 0))) (v0 v1 v2 v3 v4 v5 v6 v7 v8 v9 : Value) :
    Below w.heap.size w (doneN wr w.heap.size v0 v1 v2 v3 v4 v5 v6 v7 v8 v9) ∧ (doneN wr w.heap.size v0 v1 v2 v3 v4 v5 v6 v7 v8 v9).cell? ⟨w.heap.size, 0, none⟩ = some v0 ∧ (doneN wr w.heap.size v0 v1 v2 v3 v4 v5 v6 v7 v8 v9).cell? ⟨w.heap.size, 1, none⟩ = some v1 ∧ (doneN wr w.heap.size v0 v1 v2 v3 v4 v5 v6 v7 v8 v9).cell? ⟨w.heap.size, 2, none⟩ = some v2 ∧ (doneN wr w.heap.size v0 v1 v2 v3 v4 v5 v6 v7 v8 v9).cell? ⟨w.heap.size, 3, none⟩ = some v3 ∧ (doneN wr w.heap.size v0 v1 v2 v3 v4 v5 v6 v7 v8 v9).cell? ⟨w.heap.size, 4, none⟩ = some v4 ∧ (doneN wr w.heap.size v0 v1 v2 v3 v4 v5 v6 v7 v8 v9).cell? ⟨w.heap.size, 5, none⟩ = some v5 ∧ (doneN wr w.heap.size v0 v1 v2 v3 v4 v5 v6 v7 v8 v9).cell? ⟨w.heap.size, 6, none⟩ = some v6 ∧ (doneN wr w.heap.size v0 v1 v2 v3 v4 v5 v6 v7 v8 v9).cell? ⟨w.heap.size, 7, none⟩ = some v7 ∧ (doneN wr w.heap.size v0 v1 v2 v3 v4 v5 v6 v7 v8 v9).cell? ⟨w.heap.size, 8, none⟩ = some v8 ∧ (doneN wr w.heap.size v0 v1 v2 v3 v4 v5 v6 v7 v8 v9).cell? ⟨w.heap.size, 9, none⟩ = some v9 := by
  obtain ⟨zs, hz1, hz2⟩ := hz
  have hT : ∀ (u : World) (j : Nat) (v : Value), Turned (fun n => w.heap.size ≤ n) u (u.setCell ⟨w.heap.size, j, none⟩ v) := fun u j v => Turned.setCell (X := fun n => w.heap.size ≤ n) u ⟨w.heap.size, j, none⟩ v (Nat.le_refl _)
  have h2 : (doneN wr w.heap.size v0 v1 v2 v3 v4 v5 v6 v7 v8 v9).heap[w.heap.size]? = some (.cells #[v0, v1, v2, v3, v4, v5, v6, v7, v8, v9] 49 (0, 0)) := by
    unfold doneN
    generalize w.heap.size = z at hz2 ⊢
    obtain ⟨l, rfl⟩ : ∃ l : List Value, zs = l.toArray := ⟨zs.toList, by simp⟩
    match l, hz1 with
    | [a0, a1, a2, a3, a4, a5, a6, a7, a8, a9], _ =>
      simp [World.setCell, Array.getElem?_modify, hz2]
  refine ⟨?_, ?_, ?_, ?_, ?_, ?_, ?_, ?_, ?_, ?_, ?_⟩
  · unfold doneN
    exact hb.trans ((((((((((((hT _ _ _).trans (hT _ _ _)).trans (hT _ _ _)).trans (hT _ _ _)).trans (hT _ _ _)).trans (hT _ _ _)).trans (hT _ _ _)).trans (hT _ _ _)).trans (hT _ _ _)).trans (hT _ _ _)).below hb.size fun n hn => hn))
  all_goals (rw [Lib.cell_of_heap h2]; rfl)
/-- The answer's cells, made ahead of all else. -/
def ZeroP (w wr : World) : Prop := Below w.heap.size w wr ∧ ∃ zs : Array Value, zs.size = 10 ∧ wr.heap[w.heap.size]? = some (.cells zs 49 (0, 0))
section
variable {w wr w' : World}
theorem ZeroP.start (w : World) : ZeroP w (w.alloc (.cells (cellsN zeroN) 49)) := ⟨(Below.refl _ w).alloc (Nat.le_refl _) _, _, rfl, World.alloc_heap_new w _⟩
theorem ZeroP.lt (h : ZeroP w wr) : w.heap.size < wr.heap.size := by
  obtain ⟨_, zs, _, h2⟩ := h
  exact (Array.getElem?_eq_some_iff.1 h2).1
theorem ZeroP.below (h : ZeroP w wr) (hb : Below wr.heap.size wr w') : ZeroP w w' := by
  obtain ⟨h0, zs, h1, h2⟩ := h
  exact ⟨h0.trans (hb.mono h0.size), zs, h1, (hb.block _ (Array.getElem?_eq_some_iff.1 h2).1).trans h2⟩
theorem ZeroP.own (h : ZeroP w wr) (cs : Array Value) : TwoP w (wr.alloc (.cells cs 49)) wr.heap.size cs := by
  have h1 := h.below ((Below.refl _ wr).alloc (Nat.le_refl _) (.cells cs 49))
  exact ⟨h1.1, h.lt, h1.2, World.alloc_heap_new wr _⟩
theorem ZeroP.cells (h : ZeroP w wr) : (∀ j, j < 10 → ∃ v, wr.cell? ⟨w.heap.size, j, none⟩ = some v) ∧ ∀ j, wr.frozen? ⟨w.heap.size, j, none⟩ = false := by
  obtain ⟨_, zs, hz1, hz2⟩ := h
  refine ⟨fun j hj => ⟨zs[j]'(by omega), ?_⟩, Lib.frozen_of_heap hz2⟩
  rw [Lib.cell_of_heap hz2]; simp
end
/-! ### the program's Cut at signs that a call makes -/
theorem pcutOne (c : UInt8) (z : ByteArray) (hz : z.size ≤ 1000000) (W : World) (q : Nat) (hq : q = W.heap.size) : Calls Tryd.prog 19 #[.string z, .slice (some ⟨q, 0, none⟩) 1 1] (W.alloc (.cells #[.string ⟨#[c]⟩] 9)) fun e w' =>
    e = .returned (.tuple #[.string (txt (cutOf [[c]] z.data.toList).1), .string (txt (cutOf [[c]] z.data.toList).2.1), .string (txt (cutOf [[c]] z.data.toList).2.2)]) ∧ Below W.heap.size W w' := by
  subst hq
  have hh := World.alloc_heap_new W (.cells #[.string ⟨#[c]⟩] 9)
  have hr : ReadsO (W.alloc (.cells #[.string ⟨#[c]⟩] 9)) (W.alloc (.cells #[.string ⟨#[c]⟩] 9)).heap.size (.slice (some ⟨W.heap.size, 0, none⟩) 1 1) ([[c]].map txt) := by
    refine ⟨_, _, rfl, fun k x hk => ⟨W.heap.size, 0, rfl, by simp, by simp, ?_⟩⟩
    cases k with
    | zero =>
      cases hk
      rw [Lib.cell_of_heap hh]; rfl
    | succ k => simp at hk
  refine (pcut_any _ [[c]] z _ hr (by simp) (by simp) hz).mono ?_
  rintro e w' ⟨rfl, hb⟩
  exact ⟨rfl, ((Below.refl _ W).alloc (Nat.le_refl _) _).trans (hb.mono (by simp))⟩
theorem pcutFive (z : ByteArray) (hz : z.size ≤ 1000000) (W : World) (q : Nat) (hq : q = W.heap.size) : Calls Tryd.prog 19 #[.string z, .slice (some ⟨q, 0, none⟩) 5 5] (W.alloc (.cells #[.string ⟨#[58, 61]⟩, .string ⟨#[63, 61]⟩, .string ⟨#[43, 61]⟩, .string ⟨#[61]⟩, .string ⟨#[58]⟩] 9)) fun e w' =>
    e = .returned (.tuple #[.string (txt (cutOf signsL z.data.toList).1), .string (txt (cutOf signsL z.data.toList).2.1), .string (txt (cutOf signsL z.data.toList).2.2)]) ∧ Below W.heap.size W w' := by
  subst hq
  have hh := World.alloc_heap_new W (.cells #[.string ⟨#[58, 61]⟩, .string ⟨#[63, 61]⟩, .string ⟨#[43, 61]⟩, .string ⟨#[61]⟩, .string ⟨#[58]⟩] 9)
  have hr : ReadsO (W.alloc (.cells #[.string ⟨#[58, 61]⟩, .string ⟨#[63, 61]⟩, .string ⟨#[43, 61]⟩, .string ⟨#[61]⟩, .string ⟨#[58]⟩] 9)) (W.alloc (.cells #[.string ⟨#[58, 61]⟩, .string ⟨#[63, 61]⟩, .string ⟨#[43, 61]⟩, .string ⟨#[61]⟩, .string ⟨#[58]⟩] 9)).heap.size (.slice (some ⟨W.heap.size, 0, none⟩) 5 5) (signsL.map txt) := by
    refine ⟨_, _, rfl, fun k x hk => ⟨W.heap.size, 0, rfl, by simp, by simp [signsL], ?_⟩⟩
    rw [Lib.cell_of_heap hh]
    match k, hk with
    | 0, hk => cases hk; rfl
    | 1, hk => cases hk; rfl
    | 2, hk => cases hk; rfl
    | 3, hk => cases hk; rfl
    | 4, hk => cases hk; rfl
    | k + 5, hk => simp [signsL] at hk
  refine (pcut_any _ signsL z _ hr (by simp [signsL]) (by simp [signsL]) hz).mono ?_
  rintro e w' ⟨rfl, hb⟩
  exact ⟨rfl, ((Below.refl _ W).alloc (Nat.le_refl _) _).trans (hb.mono (by simp))⟩
/-- text.Trim, for any text of at most a million bytes. -/
theorem trimQ (z : ByteArray) (hz : z.size ≤ 1000000) (W : World) : Calls Tryd.prog 44 #[.string z] W fun e w' => e = .returned (.string (txt (trimOf z.data.toList))) ∧ Below W.heap.size W w' := trim_any z (by unfold maxLen; omega) W
theorem isThere_any (c : UInt8) (s : ByteArray) (hs : s.size ≤ 1000000) (w : World) : Calls Tryd.prog 78 #[.string ⟨#[c]⟩, .string s] w fun e w' => e = .returned (.bool (!decide ((cutOf [[c]] s.data.toList).2.1 = []))) ∧ Below w.heap.size w w' := by
  have HC := Lib.hid (pcutOne c s hs)
  obtain ⟨k1, hk1⟩ : ∃ x, x = (cutOf [[c]] s.data.toList).1 := ⟨_, rfl⟩
  obtain ⟨k2, hk2⟩ : ∃ x, x = (cutOf [[c]] s.data.toList).2.1 := ⟨_, rfl⟩
  obtain ⟨k3, hk3⟩ : ∃ x, x = (cutOf [[c]] s.data.toList).2.2 := ⟨_, rfl⟩
  rw [← hk1, ← hk2, ← hk3] at HC
  rw [← hk2]
  clear hk1 hk2 hk3
  have eb : (txt k2).toList.isEmpty = decide (k2 = []) := by rw [txt_toL]; cases k2 <;> rfl
  generalize decide (k2 = []) = b at eb ⊢
  go_enter Tryd.func78, Tryd.ntmps78
  go_wp2_with fail
  refine (HC.out _ _ rfl).mono ?_
  rintro e w1 ⟨rfl, hb1⟩
  go_wp2
  go_ret
  exact ⟨rfl, hb1⟩
end Go.Proofs.YtldddecaeloohaaDoor
