/-
  A row of rows of files, of the call's own, made longer by one while the trees stay; what it holds behind.
-/
import Derived.Test.YtginlknlkbhgaaaFLaws2
import Derived.Test.YtginlknlkbhgaaaFPure
namespace Go.Proofs.Ytginlknlkbhgaaa
open Go.RowKit Go.Shelf Go.Maps

theorem rowLL : RowT 58 45 1 :=
  rowT_of (.slice none 0 0) 24 Try.underlying58 (by kernel_rfl) (by decide) rfl (by decide)
abbrev RowV (w : World) (P : Nat → Prop) (v : Value) (l : List Value) : Prop := RowR 45 1 (fun u => [u]) w P v l

theorem At.after {w1 w w' : World} {Z Q : Nat → Prop} {room : Int} {l : List Ent} (h : At w1 Z room l w) (hT : Turned Q w w') (hd : ∀ n, Z n → n < w.heap.size → ¬ Q n) : At w' (fun n => Z n ∧ ¬ (w.heap.size ≤ n ∧ n < w'.heap.size)) room l w' :=
  ⟨(turned_below (Below.refl _ w')).wider fun _ h => h.elim, fun n hn => ⟨h.2.1 n (by have := hT.size; omega), by omega⟩, (h.2.2.tight.kept hT (fun n hn => hd n hn.1 hn.2)).wider fun n hn => ⟨hn.1, by omega⟩⟩

/-- What the rows hold: behind j changes. -/
def filesAt (S : St) (j : Nat) : List AF := filesOf ((S.pend.take j).foldl after S.last)
/-- How it stands: the trees; the row of rows, in blocks of P; the rows, in blocks of Q. -/
structure NextAt (w : World) (pb bt bm : Nat) (W5 : World) (Z5 P Q : Nat → Prop) (S : St) (vA : Value) (vs : List Value) (W : World) : Prop where
  bx : Bx w pb bt bm W5 Z5 3000 [(false, bt, S), (true, bm, S)] W
  pz : ∀ n, P n → ¬ Z5 n
  qz : ∀ n, Q n → ¬ Z5 n
  pq : ∀ n, P n → ¬ Q n
  pw : ∀ n, P n → w.heap.size ≤ n ∧ n ≠ pb
  row : RowV W5 P vA vs
  len : vs.length = S.pend.length + 1
  rows : ∀ j v, vs[j]? = some v → RowA W5 Q v (filesAt S j)
theorem NextAt.at {w : World} {pb bt bm : Nat} {W5 : World} {Z5 P Q : Nat → Prop} {S : St} {vA : Value} {vs : List Value} {W W' : World} {l : List Ent} (h : NextAt w pb bt bm W5 Z5 P Q S vA vs W) (h' : Bx w pb bt bm W5 Z5 3000 l W') : RowV W' P vA vs ∧ ∀ j v, vs[j]? = some v → RowA W' Q v (filesAt S j) :=
  ⟨h.row.kept h'.1.1 h.pz, fun j v hj => RowR.kept (h.rows j v hj) h'.1.1 h.qz⟩
theorem NextAt.goes {w : World} {pb bt bm : Nat} {W5 : World} {Z5 P Q : Nat → Prop} {S : St} {vA : Value} {vs : List Value} {W W' : World} (h : NextAt w pb bt bm W5 Z5 P Q S vA vs W) (h' : Bx w pb bt bm W5 Z5 3000 [(false, bt, S), (true, bm, S)] W') : NextAt w pb bt bm W5 Z5 P Q S vA vs W' := ⟨h', h.pz, h.qz, h.pq, h.pw, h.row, h.len, h.rows⟩
/-- The cell of one row. -/
theorem rowV_cell {w : World} {P : Nat → Prop} {o : Option Addr} {n c : Nat} {vs : List Value} (h : RowV w P (.slice o n c) vs) {j : Nat} {v : Value} (hj : vs[j]? = some v) : j < c ∧ ∃ g, o = some ⟨g, 0, none⟩ ∧ w.cell? ⟨g, j, none⟩ = some v := by
  obtain ⟨o', c', hv, q1, _, _, q4⟩ := h.shape (fun _ => rfl)
  cases hv
  obtain ⟨g, hg, hc⟩ := q4 j v hj
  have := hc 0 (by omega)
  have hl := (List.getElem?_eq_some_iff.1 hj).1
  refine ⟨by omega, g, hg, ?_⟩
  simpa using this

/-- One more. -/
theorem next_push {w W5 W7 w8 : World} {pb bt bm : Nat} {Z5 P Q : Nat → Prop} {S : St} {l : List Ent} {vA : Value} {vs : List Value} {o : Option Addr} {n c : Nat} {al : List AF}
    (hB : Bx w pb bt bm W5 Z5 3000 l W7) (hpz : ∀ n, P n → ¬ Z5 n) (hqz : ∀ n, Q n → ¬ Z5 n) (hpq : ∀ n, P n → ¬ Q n) (hp : ∀ n, P n → w.heap.size ≤ n ∧ n ≠ pb) (hV : RowV W5 P vA vs) (hA : ∀ j v, vs[j]? = some v → RowA W5 Q v (filesAt S j)) (hl : vs.length < 1073741824)
    (hr : RowA w8 (fun n => W7.heap.size ≤ n) (.slice o n c) al) (hb : Below W7.heap.size W7 w8) :
    ∃ o' c' w10, (Builtin.append_ #[58, 58] 58 #[vA, .slice (some ⟨w8.heap.size, 0, none⟩) 1 1]).run Try.prog (w8.alloc (.cells #[.slice o n c] 45)) = .ok (.slice o' (vs.length + 1) c') w10 ∧
      ∃ Z' P' Q', Bx w pb bt bm w10 Z' 3000 l w10 ∧ (∀ n, P' n → ¬ Z' n) ∧ (∀ n, Q' n → ¬ Z' n) ∧ (∀ n, P' n → ¬ Q' n) ∧ (∀ n, P' n → w.heap.size ≤ n ∧ n ≠ pb) ∧ RowV w10 P' (.slice o' (vs.length + 1) c') (vs ++ [.slice o n c]) ∧ (∀ j v, vs[j]? = some v → RowA w10 Q' v (filesAt S j)) ∧ RowA w10 Q' (.slice o n c) al := by
  have hs8 := hb.size
  have hba : Below w8.heap.size w8 (w8.alloc (.cells #[.slice o n c] 45)) := (Below.refl _ _).alloc (Nat.le_refl _) _
  have hs9 : (w8.alloc (.cells #[.slice o n c] 45)).heap.size = w8.heap.size + 1 := by simp
  have hx9 : (w8.alloc (.cells #[.slice o n c] 45)).heap[w8.heap.size]? = some (.cells #[.slice o n c] 45 (0, 0)) := World.alloc_heap_new w8 _
  generalize w8.alloc (.cells #[.slice o n c] 45) = w9 at hba hs9 hx9 ⊢
  have hb9 : Below W7.heap.size W7 w9 := hb.trans (hba.mono hs8)
  have hB9 := Bx.below hB hb9
  have h57 := hB.1.1.size
  have hw7 := (bxBack hB).size
  have hpb : pb < W7.heap.size := (Array.getElem?_eq_some_iff.1 (hB.1.cells hB.2.1 hB.2.2.1)).1
  have hV9 : RowV w9 (fun m => P m ∧ m < W5.heap.size) vA vs := RowR.kept (RowR.tight hV) hB9.1.1 (fun m hm => hpz m hm.1)
  obtain ⟨v'', w10, hrun, hR, hT, o', c', rfl⟩ := hV9.push rowLL (.slice o n c) rfl (by simp [Value.oneCell']) w8.heap.size 1 (0, 0) hx9 (by omega) 58
  have hs10 := hT.size
  have hA9 := hB.1.since hb9
  have hA10 := hA9.after hT (fun m hz _ hP => hpz m hP.1 hz.1)
  have hx10 : w10.heap[pb]? = some (.cells #[.pointer (some ⟨bt, 0, none⟩), .pointer (some ⟨bm, 0, none⟩)] 28 (0, 0)) := hT.cells (hB9.1.cells hB9.2.1 hB9.2.2.1) (fun hP => (hp pb hP.1).2 rfl)
  have hb10 : Below w.heap.size w w10 := (bxBack hB9).trans (hT.below (bxBack hB9).size (fun m hm => (hp m hm.1).1))
  refine ⟨o', c', w10, hrun, _, fun m => ((P m ∧ m < W5.heap.size) ∨ m = w9.heap.size) ∧ m < w10.heap.size, fun m => (Q m ∧ m < W5.heap.size) ∨ (W7.heap.size ≤ m ∧ m < w8.heap.size), ⟨hA10, hx10, fun hz => hB.2.2.1 hz.1.1, hb10, fun m hm => hB.2.2.2.2 m hm.1.1⟩, ?_, ?_, ?_, ?_, ?_, ?_, ?_⟩
  · rintro m ⟨hm, hm2⟩ hz
    rcases hm with hm | hm
    · exact hpz m hm.1 hz.1.1
    · exact hz.2 ⟨by omega, hm2⟩
  · rintro m hm hz
    rcases hm with hm | hm
    · exact hqz m hm.1 hz.1.1
    · exact hz.1.2 ⟨hm.1, by omega⟩
  · rintro m ⟨hm, hm2⟩ hq
    rcases hm with hm | hm
    · rcases hq with hq | hq
      · exact hpq m hm.1 hq.1
      · omega
    · rcases hq with hq | hq
      · omega
      · omega
  · rintro m ⟨hm, hm2⟩
    rcases hm with hm | hm
    · exact hp m hm.1
    · exact ⟨by omega, by omega⟩
  · exact RowR.tight hR
  · intro j v hj
    have h1 : RowA w9 (fun m => Q m ∧ m < W5.heap.size) v (filesAt S j) := RowR.kept (RowR.tight (hA j v hj)) hB9.1.1 (fun m hm => hqz m hm.1)
    exact (RowR.kept h1 hT (fun m hm hP => hpq m hP.1 hm.1)).wider (fun m hm => .inl hm)
  · have h1 : RowA w9 (fun m => W7.heap.size ≤ m ∧ m < w8.heap.size) (.slice o n c) al := RowR.below (RowR.tight hr) hba (Nat.le_refl _)
    exact (RowR.kept h1 hT (fun m hm hP => by have := hP.2; omega)).wider (fun m hm => .inr hm)

theorem filesAt_old {S S' : St} {c : Ch} (hp : S'.pend = S.pend ++ [c]) (hl : S'.last = S.last) {j : Nat} (hj : j ≤ S.pend.length) : filesAt S' j = filesAt S j := by
  unfold filesAt
  rw [hp, hl, List.take_append_of_le_length hj]
theorem filesAt_now {room : Int} {n : Nat} {S : St} (hg : Good room n S) : filesAt S S.pend.length = filesOf S.now := by
  unfold filesAt
  rw [List.take_length, hg.now]

end Go.Proofs.Ytginlknlkbhgaaa
