/-
  Rows of the call's own, among other things of its own: made longer, shorter, set. No condition but that a row stays below 2^40 elements.
-/
import Derived.Laws.AppendOwnNone
import Derived.Test.YtldddecaeloohaaDoorPOw
import Derived.Test.YtldddecaeloohaaDoorPO
namespace Go.Proofs.YtldddecaeloohaaDoor
open Go.RowKit Go.Shelf

/-- What is asked of a slice's type t with elements of type E, of k cells, which may be as wide as 256 bytes. -/
structure RowW (t E : TypeId) (k : Nat) : Prop where
  under : Tryd.prog.underlying t = some (.slice E)
  pos : 0 < k
  info : ∃ i z bytes, Tryd.prog.info? E = some i ∧ i.zero = some z ∧ i.size = k ∧ i.bytes = bytes ∧ z.cells.size = k ∧ bytes ≤ 256
theorem rowW_of {t E : TypeId} {k : Nat} (z : Value) (bytes : Nat) (hu : Tryd.prog.underlying t = some (.slice E)) (hi : (Tryd.prog.info? E).map (fun i => (i.zero, i.size, i.bytes)) = some (some z, k, bytes)) (hk : 0 < k) (hz : z.cells.size = k) (hb : bytes ≤ 256) : RowW t E k := by
  obtain ⟨i, h1, h2, h3, h4⟩ := info_parts hi
  exact ⟨hu, hk, i, z, bytes, h1, h2, h3, h4, hz, hb⟩
theorem RowT.wide {t E : TypeId} {k : Nat} (h : RowT t E k) : RowW t E k := by
  obtain ⟨i, z, bytes, h1, h2, h3, h4, h5, h6⟩ := h.info
  exact ⟨h.under, h.pos, i, z, bytes, h1, h2, h3, h4, h5, by omega⟩
theorem RowR.pushW {α : Type} {t E : TypeId} {k : Nat} {enc : α → List Value} {w : World} {P : Nat → Prop} {v : Value} {l : List α} (hT : RowW t E k) (h : RowR E k enc w P v l) (x : α) (hk : (enc x).length = k) (h1 : ∀ u ∈ enc x, u.oneCell' = true) (nb c : Nat) (fz : Nat × Nat)
    (hnb : w.heap[nb]? = some (.cells (enc x).toArray E fz)) (hl : l.length < 1073741824) (ty : TypeId) :
    ∃ v' w', (Builtin.append_ #[t, t] ty #[v, .slice (some ⟨nb, 0, none⟩) 1 c]).run Tryd.prog w = .ok v' w' ∧ RowR E k enc w' (fun n => P n ∨ n = w.heap.size) v' (l ++ [x]) ∧ Turned P w w' ∧ ∃ o c', v' = .slice o (l.length + 1) c' := by
  obtain ⟨i, z, bytes, hi, hz, hs, hby, hzs, hb64⟩ := hT.info
  obtain ⟨v', w', hr, h2, h3, h4, h5⟩ := run_append_own_at (P := Tryd.prog) (w := w) 0 t ty E i z k bytes hT.under hi hz hs hby hzs hT.pos v l.length _ h.1 ⟨nb, 0, none⟩ 1 c (enc x) (by rw [hk, Nat.one_mul]) (fun j u hu => by
      rw [Addr.add_lit, Nat.zero_add]
      rw [Lib.cell_of_heap hnb]
      simpa using hu) h1 (by unfold maxLen; omega) (by
        calc (l.length + 1) * bytes ≤ 1073741824 * 256 := Nat.mul_le_mul (by omega) hb64
          _ ≤ 140737488355328 := by omega) (Nat.zero_le _)
  refine ⟨v', w', hr, ⟨by rw [List.length_append, List.flatMap_append]; simpa using h2, fun g hg => ?_⟩, turned_grown h3 h.2, ?_⟩
  · rcases h5 with h5 | h5
    · exact .inl (h.2 g (h5 ▸ hg))
    · exact .inr (Option.some.inj (hg.symm.trans h5))
  · rcases h2.2 with ⟨rfl, h0⟩ | ⟨g, cap, cur, rfl, _⟩
    · omega
    · exact ⟨_, _, rfl⟩
/-- A row, its cells one by one. -/
def oFlat (E : TypeId) (k : Nat) (v : Value) (n : Nat) (xs : List Value) : Own where
  holds w X := w.ownsRow 0 E k v n xs ∧ (∀ g, v.ownBlock = some g → X g) ∧ ∀ m, X m → m < w.heap.size
  kept h hT hd := ⟨hT.ownsRow h.1 (fun g hg => hd g (h.2.1 g hg)), h.2.1, fun m hm => Nat.lt_of_lt_of_le (h.2.2 m hm) hT.size⟩
  lt h := h.2.2
/-- A row of some things. -/
def oRow {α : Type} (E : TypeId) (k : Nat) (enc : α → List Value) (v : Value) (l : List α) : Own := oFlat E k v l.length (l.flatMap enc)
section
variable {α : Type} {w0 w : World} {L : List Own} {E t : TypeId} {k : Nat} {enc : α → List Value} {v : Value} {l : List α}
theorem In.rowR (h : In w0 L w) (hm : oRow E k enc v l ∈ L) : RowR E k enc w (fun n => w0.heap.size ≤ n) v l := by
  obtain ⟨X, ⟨h1, h2, _⟩, h3⟩ := h.get hm
  exact ⟨h1, fun g hg => h3 g (h2 g hg)⟩
theorem In.rowNil (h : In w0 L w) (E : TypeId) (k : Nat) (enc : α → List Value) : In w0 (oRow E k enc (.slice none 0 0) [] :: L) w :=
  In.add (X := fun _ => False) h (Below.refl _ _) ⟨(RowR.nil E k enc w (fun _ => False)).1, fun g hg => by simp [Value.ownBlock] at hg, fun _ h => h.elim⟩ (fun _ h => h.elim)
/-- The shape of the slice, and its elements' cells. -/
theorem In.rowShape (h : In w0 L w) (hm : oRow E k enc v l ∈ L) (hk : ∀ x, (enc x).length = k) :
    ∃ o c, v = .slice o l.length c ∧ l.length ≤ c ∧ ∀ i x, l[i]? = some x → ∃ g, o = some ⟨g, 0, none⟩ ∧ g < w.heap.size ∧ (∀ j, w.frozen? ⟨g, j, none⟩ = false) ∧ ∀ j, j < k → w.cell? ⟨g, i * k + j, none⟩ = (enc x)[j]? := by
  have hr := h.rowR hm
  obtain ⟨o, c, hv, h1, _, _, h4⟩ := hr.shape hk
  refine ⟨o, c, hv, h1, fun i x hx => ?_⟩
  obtain ⟨g, hg, hc⟩ := h4 i x hx
  refine ⟨g, hg, hr.lt g (by rw [hv, hg]; rfl), ?_, hc⟩
  rcases hr.1.2 with ⟨hv2, h0⟩ | ⟨g', cap, cur, hv2, _, hgg, _⟩
  · have : i < l.length := (List.getElem?_eq_some_iff.1 hx).1
    omega
  · rw [hv, hg] at hv2
    simp only [Value.slice.injEq, Option.some.injEq, Addr.mk.injEq] at hv2
    obtain ⟨⟨rfl, _⟩, _⟩ := hv2
    exact Lib.frozen_of_heap hgg
/-- One element more. -/
theorem In.rowPush (hT : RowW t E k) (h : In w0 (oRow E k enc v l :: L) w) (x : α) (hk : (enc x).length = k) (h1 : ∀ u ∈ enc x, u.oneCell' = true) (hl : l.length < 1073741824) (ty : TypeId) :
    ∃ o c w', (Builtin.append_ #[t, t] ty #[v, .slice (some ⟨w.heap.size, 0, none⟩) 1 1]).run Tryd.prog (w.alloc (.cells (enc x).toArray E)) = .ok (.slice o (l.length + 1) c) w' ∧ In w0 (oRow E k enc (.slice o (l.length + 1) c) (l ++ [x]) :: L) w' := by
  have hb : Below w.heap.size w (w.alloc (.cells (enc x).toArray E)) := (Below.refl _ w).alloc (Nat.le_refl _) _
  have h9 := h.below hb
  obtain ⟨X0, hX0, _⟩ := h9.get (e := oRow E k enc v l) (by simp)
  obtain ⟨v', w', hrun, hR, hTu, o, c, rfl⟩ := RowR.pushW hT (P := X0) ⟨hX0.1, hX0.2.1⟩ x hk h1 w.heap.size 1 (0, 0) (World.alloc_heap_new w _) hl ty
  refine ⟨o, c, w', hrun, h9.one fun X hX => ?_⟩
  obtain ⟨v2, w2, hrun2, hR2, hTu2, _⟩ := RowR.pushW hT (P := X) ⟨hX.1, hX.2.1⟩ x hk h1 w.heap.size 1 (0, 0) (World.alloc_heap_new w _) hl ty
  rw [hrun] at hrun2
  cases hrun2
  have ht := hR2.tight
  refine ⟨fun n => (X n ∨ n = (w.alloc (.cells (enc x).toArray E)).heap.size) ∧ n < w'.heap.size, ⟨?_, ht.2, fun m hm => hm.2⟩, hTu2, fun n hn => hn.1.imp id (fun e => by rw [e]; exact Nat.le_refl _)⟩
  have := ht.1
  rw [List.length_append] at this
  show w'.ownsRow 0 E k _ (l ++ [x]).length _
  rw [List.length_append]
  exact this
/-- The last one taken off. -/
theorem In.rowShrink {o : Option Addr} {n c : Nat} {x : α} (hk : ∀ x, (enc x).length = k) (h : In w0 (oRow E k enc (.slice o (n + 1) c) (l ++ [x]) :: L) w) : In w0 (oRow E k enc (.slice o n c) l :: L) w ∧ n = l.length := by
  have hr : RowR E k enc w (fun n => w0.heap.size ≤ n) (.slice o (n + 1) c) (l ++ [x]) := h.rowR List.mem_cons_self
  have hn := (RowR.shrink hk hr).2
  refine ⟨h.one fun X hX => ⟨X, ⟨?_, ?_, hX.2.2⟩, Turned.refl _ _, fun _ => .inl⟩, hn⟩
  · have := (RowR.shrink hk (P := X) ⟨hX.1, hX.2.1⟩).1.1
    exact this
  · exact (RowR.shrink hk (P := X) ⟨hX.1, hX.2.1⟩).1.2
/-- A cell of it set. -/
theorem In.flatSet {g n c p : Nat} {xs : List Value} {u : Value} (h : In w0 (oFlat E k (.slice (some ⟨g, 0, none⟩) n c) n xs :: L) w) (_hp : p < xs.length) : In w0 (oFlat E k (.slice (some ⟨g, 0, none⟩) n c) n (xs.set p u) :: L) (w.setCell ⟨g, p, none⟩ u) :=
  h.one fun X hX => by
    refine ⟨X, ⟨⟨by rw [List.length_set]; exact hX.1.1, ?_⟩, hX.2.1, fun m hm => ?_⟩, Turned.setCell (X := X) w ⟨g, p, none⟩ u (hX.2.1 g rfl), fun _ => .inl⟩
    · rcases hX.1.2 with ⟨hv, _⟩ | ⟨g', cap, cur, hv, h1, h2, h3, h4, h5, h6⟩
      · cases hv
      · simp only [Value.slice.injEq, Option.some.injEq, Addr.mk.injEq, true_and] at hv
        obtain ⟨⟨rfl, _⟩, rfl⟩ := hv
        refine .inr ⟨g, c, cur.set! p u, rfl, h1, by simp [World.setCell, Array.getElem?_modify, h2], h3, h4, by simp [h5], ?_⟩
        rw [← h6]
        simp [Array.set!_eq_setIfInBounds, List.take_set]
    · have := hX.2.2 m hm
      simpa using this
end
/-- All of another row's elements more. -/
theorem In.rowAppend {α : Type} {w0 w : World} {L : List Own} {E t : TypeId} {k : Nat} {enc : α → List Value} {v u : Value} {l ys : List α} (hT : RowW t E k) (h : In w0 (oRow E k enc v l :: L) w) (hm : oRow E k enc u ys ∈ L) (hk : ∀ x, (enc x).length = k) (h1 : ∀ x, ∀ c ∈ enc x, c.oneCell' = true)
    (hl : l.length + ys.length < 1073741824) (ty : TypeId) : ∃ o n c w', (Builtin.append_ #[t, t] ty #[v, u]).run Tryd.prog w = .ok (.slice o n c) w' ∧ In w0 (oRow E k enc (.slice o n c) (l ++ ys) :: L) w' := by
  obtain ⟨i, z, bytes, hi, hz, hs, hby, hzs, hb64⟩ := hT.info
  have hu := h.rowR (E := E) (k := k) (enc := enc) (v := u) (l := ys) (List.mem_cons_of_mem _ hm)
  have hlen : ∀ q : List α, (q.flatMap enc).length = q.length * k := fun q => by
    induction q with
    | nil => simp
    | cons x r ih => rw [List.flatMap_cons, List.length_append, ih, hk, List.length_cons, Nat.add_mul]; omega
  rcases hu.1.2 with ⟨rfl, h0⟩ | ⟨g, cap, cur, rfl, _, hgg, hc1, hc2, hc3, hc4⟩
  · have hys : ys = [] := List.eq_nil_of_length_eq_zero h0
    subst hys
    obtain ⟨o, c, hv, _⟩ := h.rowShape (E := E) (k := k) (enc := enc) (v := v) (l := l) List.mem_cons_self hk
    have hr := (h.rowR (E := E) (k := k) (enc := enc) (v := v) (l := l) List.mem_cons_self).1
    refine ⟨o, l.length, c, w, ?_, ?_⟩
    · rw [← hv]
      exact run_append_owned_none (P := Tryd.prog) (w := w) 0 t ty E i k hT.under hi v l.length _ hr
    · rw [← hv, List.append_nil]; exact h
  · have key : ∀ X, (oRow E k enc v l).holds w X → ∃ v' w', (Builtin.append_ #[t, t] ty #[v, .slice (some ⟨g, 0, none⟩) ys.length cap]).run Tryd.prog w = .ok v' w' ∧ (∃ X', (oRow E k enc v' (l ++ ys)).holds w' X' ∧ Turned X w w' ∧ ∀ n, X' n → X n ∨ w.heap.size ≤ n) ∧ ∃ o n c, v' = .slice o n c := by
      intro X hX
      obtain ⟨v', w', hr, h2, h3, h4, h5⟩ := run_append_own_at (P := Tryd.prog) (w := w) 0 t ty E i z k bytes hT.under hi hz hs hby hzs hT.pos v l.length _ hX.1 ⟨g, 0, none⟩ ys.length cap (ys.flatMap enc) (hlen ys) (fun j x hx => by
          have hj : j < ys.length * k := by
            have := (List.getElem?_eq_some_iff.1 hx).1
            rw [hlen] at this; exact this
          rw [Addr.add_lit, Nat.zero_add, Lib.cell_of_heap hgg]
          rw [← hc4, List.getElem?_take_of_lt hj] at hx
          simpa using hx) (fun x hx => by
          obtain ⟨y, _, hy⟩ := List.mem_flatMap.1 hx
          exact h1 y x hy) (by unfold maxLen; omega) (by
          calc (l.length + ys.length) * bytes ≤ 1073741824 * 256 := Nat.mul_le_mul (by omega) hb64
            _ ≤ 140737488355328 := by omega) (Nat.zero_le _)
      have hg3 : Turned X w w' := turned_grown h3 hX.2.1
      have hown : ∀ b, v'.ownBlock = some b → (X b ∨ b = w.heap.size) ∧ b < w'.heap.size := fun b hb => by
        refine ⟨?_, ?_⟩
        · rcases h5 with h5 | h5
          · exact .inl (hX.2.1 b (h5 ▸ hb))
          · exact .inr (Option.some.inj (hb.symm.trans h5))
        · rcases h2.2 with ⟨rfl, _⟩ | ⟨g', cap', cur', rfl, _, hgg', _⟩
          · simp [Value.ownBlock] at hb
          · simp [Value.ownBlock] at hb
            subst hb
            exact (Array.getElem?_eq_some_iff.1 hgg').1
      refine ⟨v', w', hr, ⟨fun n => (X n ∨ n = w.heap.size) ∧ n < w'.heap.size, ⟨?_, hown, fun m hm => hm.2⟩, hg3, fun n hn => hn.1.imp id (fun e => by rw [e]; exact Nat.le_refl _)⟩, ?_⟩
      · show w'.ownsRow 0 E k v' (l ++ ys).length ((l ++ ys).flatMap enc)
        rw [List.length_append, List.flatMap_append]
        exact h2
      · rcases h2.2 with ⟨rfl, _⟩ | ⟨g', cap', cur', rfl, _⟩
        · exact ⟨_, _, _, rfl⟩
        · exact ⟨_, _, _, rfl⟩
    obtain ⟨X0, hX0, _⟩ := h.get (e := oRow E k enc v l) List.mem_cons_self
    obtain ⟨v', w', hr, _, o, n, c, rfl⟩ := key X0 hX0
    refine ⟨o, n, c, w', hr, h.one fun X hX => ?_⟩
    obtain ⟨v2, w2, hr2, hx2, _⟩ := key X hX
    rw [hr] at hr2
    cases hr2
    exact hx2
theorem set_at {A B : List Value} {m j k : Nat} (hA : A.length = m * k) (u : Value) : (A ++ B).set (m * k + j) u = A ++ B.set j u := by
  rw [List.set_append_right _ _ (by omega)]
  congr 2
  omega
end Go.Proofs.YtldddecaeloohaaDoor
