/-
  A row of lists of the call's own, made longer by one while the trees stay.
-/
import Derived.Deep.QuietTactic
import Derived.BigQuiet
import Derived.Test.YtgnappifekacpaaGreatDoorJLib
namespace Go.Proofs.YtgnappifekacpaaGreatDoor
open Go.RowKit Go.Shelf Go.Maps

theorem rowLs : RowT 32 37 1 :=
  rowT_of (.slice none 0 0) 24 Tryz.underlying32 (by kernel_rfl) (by decide) rfl (by decide)
abbrev RowU (w : World) (P : Nat → Prop) (v : Value) (l : List Value) : Prop := RowR 37 1 (fun u => [u]) w P v l
theorem At.after {w1 w w' : World} {Z Q : Nat → Prop} {room : Int} {l : List Ent} (h : At w1 Z room l w) (hT : Turned Q w w') (hd : ∀ n, Z n → n < w.heap.size → ¬ Q n) : At w' (fun n => Z n ∧ ¬ (w.heap.size ≤ n ∧ n < w'.heap.size)) room l w' :=
  ⟨(turned_below (Below.refl _ w')).wider fun _ h => h.elim, fun n hn => ⟨h.2.1 n (by have := hT.size; omega), by omega⟩, (h.2.2.tight.kept hT (fun n hn => hd n hn.1 hn.2)).wider fun n hn => ⟨hn.1, by omega⟩⟩

/-- A row of the call's own, in blocks of P, that no tree has: its elements read as the lists, out of what came in. -/
structure RowIn (w : World) (pb : Nat) (W5 : World) (Z5 P : Nat → Prop) (v : Value) (fs : List (List ByteArray)) : Prop where
  row : ∃ vs, RowU W5 P v vs ∧ EachReads w vs fs
  pz : ∀ n, P n → ¬ Z5 n
  pw : ∀ n, P n → w.heap.size ≤ n ∧ n ≠ pb
theorem each_nil (w : World) : EachReads w [] [] := ⟨rfl, by simp⟩
theorem RowIn.nil (w : World) (pb : Nat) (W5 : World) (Z5 : Nat → Prop) : RowIn w pb W5 Z5 (fun _ => False) (.slice none 0 0) [] := ⟨⟨[], RowR.nil _ _ _ _ _, each_nil w⟩, fun _ h => h.elim, fun _ h => h.elim⟩
section
variable {w W5 w6 W : World} {pb bt bm : Nat} {Z5 Z6 P : Nat → Prop} {room : Int} {l : List Ent} {v : Value} {fs : List (List ByteArray)}
theorem RowIn.shape (h : RowIn w pb W5 Z5 P v fs) : ∃ o c, v = .slice o fs.length c := by
  obtain ⟨vs, h1, h2⟩ := h.row
  obtain ⟨o, c, hv, _⟩ := h1.shape (fun _ => rfl)
  exact ⟨o, c, by rw [hv, h2.1]⟩
theorem RowIn.rebox (h : RowIn w pb W5 Z5 P v fs) (hT : Turned Z5 W5 w6) (hz : ∀ n, Z6 n → Z5 n) : RowIn w pb w6 Z6 P v fs := by
  obtain ⟨⟨vs, h1, h2⟩, h3, h4⟩ := h
  exact ⟨⟨vs, RowR.kept h1 hT h3, h2⟩, fun n hn h6 => h3 n hn (hz n h6), h4⟩
/-- The first m of it, in the box. -/
theorem RowIn.reads (h : RowIn w pb W5 Z5 P v fs) (hB : Bx w pb bt bm W5 Z5 room l W) {o : Option Addr} {n c : Nat} (hv : v = .slice o n c) (m : Nat) (hm : m ≤ fs.length) : ReadsLL W W.heap.size (.slice o m c) (fs.take m) := by
  obtain ⟨⟨vs, h1, h2⟩, h3, h4⟩ := h
  have h5 : RowU W P v vs := RowR.kept h1 hB.1.1 h3
  have hb := bxBack hB
  have hml : (fs.take m).length = m := by rw [List.length_take]; omega
  refine ⟨o, c, by rw [hml], fun i xs hi => ?_⟩
  have him : i < m := by have := (List.getElem?_eq_some_iff.1 hi).1; omega
  rw [List.getElem?_take_of_lt him] at hi
  obtain ⟨u, k1, k2⟩ := h2.2 i xs hi
  obtain ⟨o', c', hv', q1, _, _, q4⟩ := h5.shape (fun _ => rfl)
  rw [hv] at hv'
  cases hv'
  obtain ⟨g, hg, hc⟩ := q4 i u k1
  have hcell : W.cell? ⟨g, i, none⟩ = some u := by
    have := hc 0 (by omega)
    simpa using this
  have hlen := h2.1
  have hgl : g < W.heap.size := RowR.lt h5 g (by rw [hv, hg]; rfl)
  exact ⟨g, 0, u, hg, hgl, by omega, by rw [Nat.zero_add]; exact hcell, k2.below hb hb.size⟩

/-- One more. -/
theorem row_push (hB : Bx w pb bt bm W5 Z5 room l W) (hR : RowIn w pb W5 Z5 P v fs) (u : Value) (hu1 : u.oneCell' = true) {xs : List ByteArray} (hu : ReadsO w w.heap.size u xs) (hl : fs.length < 1073741824) :
    ∃ o' c' w10, (Builtin.append_ #[32, 32] 32 #[v, .slice (some ⟨W.heap.size, 0, none⟩) 1 1]).run Tryz.prog (W.alloc (.cells #[u] 37)) = .ok (.slice o' (fs.length + 1) c') w10 ∧
      ∃ Z' P', Bx w pb bt bm w10 Z' room l w10 ∧ RowIn w pb w10 Z' P' (.slice o' (fs.length + 1) c') (fs ++ [xs]) ∧
        ∀ v2 fs2 Q, RowIn w pb W5 Z5 Q v2 fs2 → (∀ n, P n → ¬ Q n) → ∃ Q', RowIn w pb w10 Z' Q' v2 fs2 ∧ ∀ n, P' n → ¬ Q' n := by
  obtain ⟨⟨vs, hV, hE⟩, hpz, hp⟩ := hR
  have hba : Below W.heap.size W (W.alloc (.cells #[u] 37)) := (Below.refl _ _).alloc (Nat.le_refl _) _
  have hs9 : (W.alloc (.cells #[u] 37)).heap.size = W.heap.size + 1 := by simp
  have hx9 : (W.alloc (.cells #[u] 37)).heap[W.heap.size]? = some (.cells #[u] 37 (0, 0)) := World.alloc_heap_new W _
  generalize W.alloc (.cells #[u] 37) = w9 at hba hs9 hx9 ⊢
  have hB9 := Bx.below hB hba
  have h57 := hB.1.1.size
  have hw7 := (bxBack hB).size
  have hpb : pb < W.heap.size := (Array.getElem?_eq_some_iff.1 (hB.1.cells hB.2.1 hB.2.2.1)).1
  have hV9 : RowU w9 (fun m => P m ∧ m < W5.heap.size) v vs := RowR.kept (RowR.tight hV) hB9.1.1 (fun m hm => hpz m hm.1)
  have hvl := hE.1
  obtain ⟨v'', w10, hrun, hR', hT, o', c', rfl⟩ := hV9.push rowLs u rfl (by simp [hu1]) W.heap.size 1 (0, 0) hx9 (by omega) 32
  have hs10 := hT.size
  have hA9 := hB.1.since hba
  have hA10 := hA9.after hT (fun m hz _ hP => hpz m hP.1 hz.1)
  have hx10 : w10.heap[pb]? = some (.cells #[.pointer (some ⟨bt, 0, none⟩), .pointer (some ⟨bm, 0, none⟩)] 28 (0, 0)) := hT.cells (hB9.1.cells hB9.2.1 hB9.2.2.1) (fun hP => (hp pb hP.1).2 rfl)
  have hb10 : Below w.heap.size w w10 := (bxBack hB9).trans (hT.below (bxBack hB9).size (fun m hm => (hp m hm.1).1))
  rw [hvl] at hrun
  refine ⟨o', c', w10, hrun, _, fun m => ((P m ∧ m < W5.heap.size) ∨ m = w9.heap.size) ∧ m < w10.heap.size, ⟨hA10, hx10, fun hz => hB.2.2.1 hz.1.1, hb10, fun m hm => hB.2.2.2.2 m hm.1.1⟩, ⟨⟨_, ?_, hE.snoc hu⟩, ?_, ?_⟩, ?_⟩
  · rw [← hvl]; exact RowR.tight hR'
  · rintro m ⟨hm, hm2⟩ hz
    rcases hm with hm | hm
    · exact hpz m hm.1 hz.1.1
    · exact hz.2 ⟨by omega, hm2⟩
  · rintro m ⟨hm, hm2⟩
    rcases hm with hm | hm
    · exact hp m hm.1
    · exact ⟨by omega, by omega⟩
  · rintro v2 fs2 Q ⟨⟨vs2, k1, k2⟩, k3, k4⟩ hpq
    refine ⟨fun m => Q m ∧ m < W5.heap.size, ⟨⟨vs2, ?_, k2⟩, ?_, fun n hn => k4 n hn.1⟩, ?_⟩
    · have h1 : RowU w9 (fun m => Q m ∧ m < W5.heap.size) v2 vs2 := RowR.kept (RowR.tight k1) hB9.1.1 (fun m hm => k3 m hm.1)
      exact RowR.kept h1 hT (fun m hm hP => hpq m hP.1 hm.1)
    · intro m hm hz
      exact k3 m hm.1 hz.1.1
    · rintro m ⟨hm, hm2⟩ hq
      rcases hm with hm | hm
      · exact hpq m hm.1 hq.1
      · omega
end

end Go.Proofs.YtgnappifekacpaaGreatDoor
