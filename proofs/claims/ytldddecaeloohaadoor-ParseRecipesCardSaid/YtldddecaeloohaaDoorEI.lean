/-
  A row of chapter 8's lines, as it lies in memory; what a call of Lex must tell. No condition.
-/
import Derived.ProofKit
import Derived.Below
import Derived.Carry
import Derived.RowKit
import Derived.Lib.Hide
import Derived.WalkKit
import Derived.Test.YtldddecaeloohaaDoorProg
import Derived.Test.YtldddecaeloohaaDoorEM
namespace Go.Proofs.YtldddecaeloohaaDoor
open Go.RowKit

def LawPost (w : World) (e : Ending) (w' : World) : Prop := e = .returned (.bool true) ∧ Below w.heap.size w w'
/-- The value v reads as the lines l, out of blocks below B. -/
def ReadsI (W : World) (B : Nat) (v : Value) (l : List Item) : Prop :=
  ∃ o c, v = .slice o l.length c ∧ ∀ j x, l[j]? = some x → ∃ b f, o = some ⟨b, f, none⟩ ∧ b < B ∧ l.length ≤ c ∧ W.cell? ⟨b, f + j * 3, none⟩ = some (.int .i64 (x.1 : Nat)) ∧ W.cell? ⟨b, f + j * 3 + 1, none⟩ = some (.bool x.2.1) ∧ W.cell? ⟨b, f + j * 3 + 2, none⟩ = some (.string (txt x.2.2))
theorem ReadsI.below {W W' : World} {B B' : Nat} {v : Value} {l : List Item} (h : ReadsI W B v l) (hb : Below B W W') (hB : B ≤ B') : ReadsI W' B' v l := by
  obtain ⟨o, c, hv, hx⟩ := h
  refine ⟨o, c, hv, fun j x hj => ?_⟩
  obtain ⟨b, f, h1, h2, h3, h4, h5, h6⟩ := hx j x hj
  exact ⟨b, f, h1, by omega, h3, (hb.cell (p := ⟨b, f + j * 3, none⟩) h2).trans h4, (hb.cell (p := ⟨b, f + j * 3 + 1, none⟩) h2).trans h5, (hb.cell (p := ⟨b, f + j * 3 + 2, none⟩) h2).trans h6⟩
theorem ReadsI.empty (W : World) (B : Nat) : ReadsI W B (.slice none 0 0) [] := ⟨_, _, rfl, fun j x h => by simp at h⟩
/-- One of the lines, in any world behind. -/
theorem ReadsI.at {w : World} {o : Option Addr} {n c : Nat} {l : List Item} (h : ReadsI w w.heap.size (.slice o n c) l) {k : Nat} {x : Item} (hk : l[k]? = some x) :
    ∃ b f, o = some ⟨b, f, none⟩ ∧ l.length ≤ c ∧ ∀ W, Below w.heap.size w W → W.cell? ⟨b, f + k * 3, none⟩ = some (.int .i64 (x.1 : Nat)) ∧ W.cell? ⟨b, f + k * 3 + 1, none⟩ = some (.bool x.2.1) ∧ W.cell? ⟨b, f + k * 3 + 2, none⟩ = some (.string (txt x.2.2)) := by
  obtain ⟨o', c', hv, hx⟩ := h
  cases hv
  obtain ⟨b, f, h1, h2, h3, h4, h5, h6⟩ := hx k x hk
  exact ⟨b, f, h1, h3, fun W hb => ⟨(hb.cell (p := ⟨b, f + k * 3, none⟩) h2).trans h4, (hb.cell (p := ⟨b, f + k * 3 + 1, none⟩) h2).trans h5, (hb.cell (p := ⟨b, f + k * 3 + 2, none⟩) h2).trans h6⟩⟩
theorem ReadsI.shape {w : World} {B : Nat} {v : Value} {l : List Item} (h : ReadsI w B v l) : ∃ o c, v = .slice o l.length c ∧ ReadsI w B (.slice o l.length c) l := by
  obtain ⟨o, c, rfl, hx⟩ := h
  exact ⟨o, c, rfl, o, c, rfl, hx⟩
/-- What a call of Lex tells. -/
def LexPost (w : World) (s : BS) (e : Ending) (w' : World) : Prop :=
  ∃ o c, e = .returned (.tuple #[.slice o (lexOf s).1.length c, .int .i64 (lexOf s).2.1, .int .i64 ((lexOf s).2.2 : Nat)]) ∧ ReadsI w' w'.heap.size (.slice o (lexOf s).1.length c) (lexOf s).1 ∧ Below w.heap.size w w'
/-- That each call of Lex tells so. -/
def LexC : Prop := ∀ (s : ByteArray) (w : World), s.size ≤ 1000000 → Calls Tryd.prog 11 #[.string s] w (LexPost w s.data.toList)

/-! ### the chapter's example -/
def shownT : BS := [97, 32, 61, 32, 98, 32, 92, 10, 9, 99, 32, 35, 32, 100, 10, 9, 114, 117, 110, 32, 35, 10]
theorem shown_lex : lexOf shownT = ([(1, false, [97, 32, 61, 32, 98, 32, 99]), (3, true, [114, 117, 110, 32, 35])], 0, 0) := by
  have e : linesL shownT = [[97, 32, 61, 32, 98, 32, 92], [9, 99, 32, 35, 32, 100], [9, 114, 117, 110, 32, 35]] := by decide
  have g1 : glue [97, 32, 61, 32, 98, 32, 92] [[9, 99, 32, 35, 32, 100], [9, 114, 117, 110, 32, 35]] = ([97, 32, 61, 32, 98, 32, 99, 32, 35, 32, 100], 1) := by decide
  have t1 : textL (tabL [97, 32, 61, 32, 98, 32, 92]) [97, 32, 61, 32, 98, 32, 99, 32, 35, 32, 100] = [97, 32, 61, 32, 98, 32, 99] := by decide
  have g2 : glue [9, 114, 117, 110, 32, 35] [] = ([9, 114, 117, 110, 32, 35], 0) := by decide
  have t2 : textL (tabL [9, 114, 117, 110, 32, 35]) [9, 114, 117, 110, 32, 35] = [114, 117, 110, 32, 35] := by decide
  have hi : itemsL 1 (linesL shownT) = [(1, false, [97, 32, 61, 32, 98, 32, 99]), (3, true, [114, 117, 110, 32, 35])] := by
    rw [e, items_some (by rw [g1, t1]; simp), g1, t1]
    simp only [List.drop_succ_cons, List.drop_zero]
    rw [items_some (by rw [g2, t2]; simp), g2, t2]
    simp only [List.drop_nil]
    rw [items_nil]
    rfl
  rw [lex_ok (by rw [hi]; rfl), hi]

end Go.Proofs.YtldddecaeloohaaDoor
