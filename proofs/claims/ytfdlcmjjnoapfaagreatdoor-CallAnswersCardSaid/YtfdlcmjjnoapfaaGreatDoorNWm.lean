/-
  A block of one text that a call made, through what follows; of's answer over it. No condition.
-/
import Derived.Test.YtfdlcmjjnoapfaaGreatDoorNWk
namespace Go.Proofs.YtfdlcmjjnoapfaaGreatDoor
open Go.RowKit Go.Shelf

/-- A block's first cell holds a text. -/
def Lies (W : World) (k : Nat) (x : ByteArray) : Prop := W.cell? ⟨k, 0, none⟩ = some (.string x) ∧ k < W.heap.size
theorem Lies.new (W : World) (x : ByteArray) : Lies (W.alloc (.cells #[.string x] 9)) W.heap.size x := by
  have hn := World.alloc_heap_new W (.cells #[.string x] 9)
  exact ⟨by unfold World.cell?; rw [hn]; rfl, by simp⟩
theorem Lies.new1 (W : World) (x : ByteArray) {k : Nat} (h : k = W.heap.size) : Lies (W.alloc (.cells #[.string x] 9)) k x := h ▸ Lies.new W x
theorem Lies.drew {W : World} {k : Nat} {x : ByteArray} (h : Lies W k x) : Lies W.drew k x := h
theorem Lies.below {W W' : World} {k : Nat} {x : ByteArray} (hb : Below W.heap.size W W') (h : Lies W k x) : Lies W' k x := ⟨(hb.cell (p := ⟨k, 0, none⟩) h.2).trans h.1, Nat.lt_of_lt_of_le h.2 hb.size⟩
theorem Lies.alloc {W : World} {k : Nat} {x : ByteArray} (O : Obj) (h : Lies W k x) : Lies (W.alloc O) k x := h.below ((Below.refl W.heap.size W).alloc (Nat.le_refl _) O)
theorem of1_lies (s : ByteArray) (a r : BT) (ha : a.length ≤ 1000000) (h : (callT s.data.toList [a]).1 = r) (w0 : World) (hs0 : ∀ W, Below w0.heap.size w0 W → Std W) (C : World → Prop) (hC : ∀ W W', C W → Below w0.heap.size w0 W → Below W.heap.size W W' → C W') (W : World) (b : Nat) (hl : Lies W b (txt a)) (hc : C W ∧ Below w0.heap.size w0 W) :
    Calls Tryz.prog 18 #[.string s, .slice (some ⟨b, 0, none⟩) 1 1] W fun e w' => e = .returned (.string (txt r)) ∧ C w' ∧ Below w0.heap.size w0 w' ∧ Below W.heap.size W w' := by
  refine (of1_at s a r ha h b W (hs0 W hc.2) hl.1 hl.2).mono ?_
  rintro e w' ⟨rfl, hb⟩
  exact ⟨rfl, hC W w' hc.1 hc.2 hb, hc.2.trans (hb.mono hc.2.size), hb⟩
end Go.Proofs.YtfdlcmjjnoapfaaGreatDoor
