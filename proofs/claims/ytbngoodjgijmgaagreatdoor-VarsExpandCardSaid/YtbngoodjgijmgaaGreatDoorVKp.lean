/-
  What lies in boxes stays, call behind call. No condition.
-/
import Derived.Test.YtbngoodjgijmgaaGreatDoorGH
namespace Go.Proofs.YtbngoodjgijmgaaGreatDoor
open Go.RowKit Go.Shelf

/-- W came of w, and nothing that was there has changed. -/
abbrev Later (w W : World) : Prop := Below w.heap.size w W
theorem Later.on {a b c : World} (h1 : Later a b) (h2 : Later b c) : Later a c := h1.trans (h2.mono h1.size)
theorem Later.put {a b : World} (h : Later a b) (o : Obj) : Later a (b.alloc o) := h.alloc h.size o
theorem Later.self (w : World) (o : Obj) : Later w (w.alloc o) := (Below.refl _ w).alloc (Nat.le_refl _) o
/-- Some blocks, and what lies in them. -/
def Keep (l : List (Nat × Obj)) (W : World) : Prop := ∀ p ∈ l, W.heap[p.1]? = some p.2
theorem Keep.nil (W : World) : Keep [] W := fun _ h => by cases h
theorem Keep.on {l : List (Nat × Obj)} {W W' : World} (h : Keep l W) (hb : Later W W') : Keep l W' := fun p hp => (hb.block _ (Array.getElem?_eq_some_iff.1 (h p hp)).1).trans (h p hp)
theorem Keep.put {l : List (Nat × Obj)} {W : World} (h : Keep l W) (o : Obj) : Keep ((W.heap.size, o) :: l) (W.alloc o) := fun p hp => by
  rcases List.mem_cons.1 hp with rfl | hp
  · exact World.alloc_heap_new W o
  · exact (h.on (Later.self W o)) p hp
theorem Keep.head {b : Nat} {o : Obj} {l : List (Nat × Obj)} {W : World} (h : Keep ((b, o) :: l) W) : W.heap[b]? = some o := h (b, o) (.head _)
theorem Keep.tail {p : Nat × Obj} {l : List (Nat × Obj)} {W : World} (h : Keep (p :: l) W) : Keep l W := fun q hq => h q (.tail _ hq)
/-- The slice of variables, as it is. -/
theorem EnvS.len {W : World} {Q : Nat → Prop} {o : Option Addr} {m c : Nat} {l : EnvT} (h : EnvS W Q (.slice o m c) l) : m = l.length := by
  rcases h with ⟨h, rfl⟩ | ⟨b, c', h, _⟩
  · cases h; rfl
  · cases h; rfl
/-- A variable's cells. -/
theorem EnvS.var {W : World} {Q : Nat → Prop} {o : Option Addr} {m c j : Nat} {l : EnvT} {x : VarT} (h : EnvS W Q (.slice o m c) l) (hj : l[j]? = some x) :
    ∃ b, o = some ⟨b, 0, none⟩ ∧ b < W.heap.size ∧ m ≤ c ∧ ∀ W', Later W W' → W'.cell? ⟨b, j * 3, none⟩ = some (.string (txt x.1)) ∧ W'.cell? ⟨b, j * 3 + 1, none⟩ = some (.string (txt x.2.1)) ∧ W'.cell? ⟨b, j * 3 + 2, none⟩ = some (.bool x.2.2) := by
  rcases h with ⟨_, rfl⟩ | ⟨b, c', h, _, h2, h3, h4⟩
  · simp at hj
  · cases h
    refine ⟨b, rfl, h2, h3, fun W' hb => ?_⟩
    have h5 := h4 j x hj
    exact ⟨(hb.cell (p := ⟨b, j * 3, none⟩) h2).trans (h5 0 _ rfl), (hb.cell (p := ⟨b, j * 3 + 1, none⟩) h2).trans (h5 1 _ rfl), (hb.cell (p := ⟨b, j * 3 + 2, none⟩) h2).trans (h5 2 _ rfl)⟩
/-- The shape alone. -/
theorem EnvS.slices {W : World} {Q : Nat → Prop} {v : Value} {l : EnvT} (h : EnvS W Q v l) : ∃ o c, v = .slice o l.length c := by
  rcases h with ⟨h, rfl⟩ | ⟨b, c', h, _⟩
  · exact ⟨none, 0, h⟩
  · exact ⟨_, _, h⟩
end Go.Proofs.YtbngoodjgijmgaaGreatDoor
