/-
  Rows of structs that lie anywhere: read, made longer by one; which blocks turn. No condition but that a row stays below 2^40 elements.
-/
import Derived.Maps.AppendAt
import Derived.KernelRfl
import Derived.Lib.Builder
import Derived.Test.YtldddecaeloohaaDoorIter
import Derived.Test.YtldddecaeloohaaDoorEI
namespace Go.Proofs.YtldddecaeloohaaDoor
open Go.RowKit

theorem turned_grown {X : Nat → Prop} {a b : World} {row : Option Nat} (h : a.grownBy b row) (hr : ∀ g, row = some g → X g) : Turned X a b :=
  ⟨h.os, h.tape, h.output, h.size, fun k hk hx => h.block k hk (fun e => hx (hr k e.symm))⟩

/-- What is asked of a slice's type t with elements of type E, of k cells. -/
structure RowT (t E : TypeId) (k : Nat) : Prop where
  under : Tryd.prog.underlying t = some (.slice E)
  pos : 0 < k
  info : ∃ i z bytes, Tryd.prog.info? E = some i ∧ i.zero = some z ∧ i.size = k ∧ i.bytes = bytes ∧ z.cells.size = k ∧ bytes ≤ 64
theorem rowT_of {t E : TypeId} {k : Nat} (z : Value) (bytes : Nat) (hu : Tryd.prog.underlying t = some (.slice E)) (hi : (Tryd.prog.info? E).map (fun i => (i.zero, i.size, i.bytes)) = some (some z, k, bytes)) (hk : 0 < k) (hz : z.cells.size = k) (hb : bytes ≤ 64) : RowT t E k := by
  obtain ⟨i, h1, h2, h3, h4⟩ := info_parts hi
  exact ⟨hu, hk, i, z, bytes, h1, h2, h3, h4, hz, hb⟩
variable {α : Type}
/-- The value is a row of the texts' elements, in a block of P. -/
def RowR (E : TypeId) (k : Nat) (enc : α → List Value) (w : World) (P : Nat → Prop) (v : Value) (l : List α) : Prop :=
  w.ownsRow 0 E k v l.length (l.flatMap enc) ∧ ∀ g, v.ownBlock = some g → P g
theorem RowR.nil (E : TypeId) (k : Nat) (enc : α → List Value) (w : World) (P : Nat → Prop) : RowR E k enc w P (.slice none 0 0) [] := ⟨⟨by simp, .inl ⟨rfl, rfl⟩⟩, by simp [Value.ownBlock]⟩
theorem RowR.kept {E : TypeId} {k : Nat} {enc : α → List Value} {w w' : World} {P X : Nat → Prop} {v : Value} {l : List α} (h : RowR E k enc w P v l) (hT : Turned X w w') (hd : ∀ n, P n → ¬ X n) : RowR E k enc w' P v l :=
  ⟨hT.ownsRow h.1 (fun r hr => hd r (h.2 r hr)), h.2⟩
theorem RowR.wider {E : TypeId} {k : Nat} {enc : α → List Value} {w : World} {P Q : Nat → Prop} {v : Value} {l : List α} (h : RowR E k enc w P v l) (hPQ : ∀ n, P n → Q n) : RowR E k enc w Q v l := ⟨h.1, fun g hg => hPQ g (h.2 g hg)⟩
theorem RowR.lt {E : TypeId} {k : Nat} {enc : α → List Value} {w : World} {P : Nat → Prop} {v : Value} {l : List α} (h : RowR E k enc w P v l) : ∀ g, v.ownBlock = some g → g < w.heap.size := fun g hg => by
  rcases h.1.2 with ⟨rfl, _⟩ | ⟨g', cap, cur, rfl, _, hgg, _⟩
  · simp [Value.ownBlock] at hg
  · simp [Value.ownBlock] at hg
    subst hg
    exact (Array.getElem?_eq_some_iff.1 hgg).1
/-- .. in blocks that are there. -/
theorem RowR.tight {E : TypeId} {k : Nat} {enc : α → List Value} {w : World} {P : Nat → Prop} {v : Value} {l : List α} (h : RowR E k enc w P v l) : RowR E k enc w (fun n => P n ∧ n < w.heap.size) v l := ⟨h.1, fun g hg => ⟨h.2 g hg, h.lt g hg⟩⟩
theorem flatMap_get {enc : α → List Value} {k : Nat} (hk : ∀ x, (enc x).length = k) : ∀ (l : List α) (i j : Nat) (x : α), l[i]? = some x → j < k → (l.flatMap enc)[i * k + j]? = (enc x)[j]?
  | [], i, j, x, h, _ => by simp at h
  | y :: r, 0, j, x, h, hj => by
    simp at h; subst h
    rw [List.flatMap_cons, List.getElem?_append_left (by rw [hk]; omega)]; simp
  | y :: r, i + 1, j, x, h, hj => by
    rw [List.flatMap_cons, List.getElem?_append_right (by rw [hk, Nat.add_mul]; omega), hk, ← flatMap_get hk r i j x (by simpa using h) hj]
    congr 1
    rw [Nat.add_mul]; omega
/-- The shape of the slice, and its elements' cells. -/
theorem RowR.shape {E : TypeId} {k : Nat} {enc : α → List Value} {w : World} {P : Nat → Prop} {v : Value} {l : List α} (h : RowR E k enc w P v l) (hk : ∀ x, (enc x).length = k) :
    ∃ o c, v = .slice o l.length c ∧ l.length ≤ c ∧ c ≤ maxLen ∧ (∀ a, o = some a → ∃ g, a = ⟨g, 0, none⟩ ∧ P g) ∧ ∀ i x, l[i]? = some x → ∃ g, o = some ⟨g, 0, none⟩ ∧ ∀ j, j < k → w.cell? ⟨g, i * k + j, none⟩ = (enc x)[j]? := by
  rcases h.1.2 with ⟨rfl, h0⟩ | ⟨g, cap, cur, rfl, hb, hg, h1, h2, h3, h4⟩
  · have : l = [] := List.eq_nil_of_length_eq_zero h0
    subst this
    exact ⟨none, 0, rfl, Nat.le_refl _, by simp [maxLen], by simp, by simp⟩
  · refine ⟨some ⟨g, 0, none⟩, cap, rfl, h1, h2, fun a ha => ⟨g, (Option.some.inj ha).symm, h.2 g (by simp [Value.ownBlock])⟩, fun i x hx => ⟨g, rfl, fun j hj => ?_⟩⟩
    have hi : i < l.length := (List.getElem?_eq_some_iff.1 hx).1
    rw [← flatMap_get hk l i j x hx hj, ← h4, List.getElem?_take_of_lt ?_]
    · simp [World.cell?, hg]
    · calc i * k + j < (i + 1) * k := by rw [Nat.add_mul]; omega
        _ ≤ l.length * k := Nat.mul_le_mul_right _ hi

/-- One element more. -/
theorem RowR.push {t E : TypeId} {k : Nat} {enc : α → List Value} {w : World} {P : Nat → Prop} {v : Value} {l : List α} (hT : RowT t E k) (h : RowR E k enc w P v l) (x : α) (hk : (enc x).length = k) (h1 : ∀ u ∈ enc x, u.oneCell' = true) (nb c : Nat) (fz : Nat × Nat)
    (hnb : w.heap[nb]? = some (.cells (enc x).toArray E fz)) (hl : l.length < 1099511627776) (ty : TypeId) :
    ∃ v' w', (Builtin.append_ #[t, t] ty #[v, .slice (some ⟨nb, 0, none⟩) 1 c]).run Tryd.prog w = .ok v' w' ∧ RowR E k enc w' (fun n => P n ∨ n = w.heap.size) v' (l ++ [x]) ∧ Turned P w w' ∧ ∃ o c', v' = .slice o (l.length + 1) c' := by
  obtain ⟨i, z, bytes, hi, hz, hs, hby, hzs, hb64⟩ := hT.info
  obtain ⟨v', w', hr, h2, h3, h4, h5⟩ := run_append_own_at (P := Tryd.prog) (w := w) 0 t ty E i z k bytes hT.under hi hz hs hby hzs hT.pos v l.length _ h.1 ⟨nb, 0, none⟩ 1 c (enc x) (by rw [hk, Nat.one_mul]) (fun j u hu => by
      rw [Addr.add_lit, Nat.zero_add]
      rw [Lib.cell_of_heap hnb]
      simpa using hu) h1 (by unfold maxLen; omega) (by
        calc (l.length + 1) * bytes ≤ 1099511627776 * 64 := Nat.mul_le_mul (by omega) hb64
          _ ≤ 140737488355328 := by omega) (Nat.zero_le _)
  refine ⟨v', w', hr, ⟨by rw [List.length_append, List.flatMap_append]; simpa using h2, fun g hg => ?_⟩, turned_grown h3 h.2, ?_⟩
  · rcases h5 with h5 | h5
    · exact .inl (h.2 g (h5 ▸ hg))
    · exact .inr (Option.some.inj (hg.symm.trans h5))
  · rcases h2.2 with ⟨rfl, h0⟩ | ⟨g, cap, cur, rfl, _⟩
    · omega
    · exact ⟨_, _, rfl⟩

/-! ### rows of chapter 8's lines -/
abbrev encI (x : Item) : List Value := [.int .i64 (x.1 : Nat), .bool x.2.1, .string (txt x.2.2)]
theorem rowLines : RowT 23 47 3 :=
  rowT_of (.agg #[.int .i64 0, .bool false, .string ⟨#[]⟩]) 32 Tryd.underlying23 (by kernel_rfl) (by decide) rfl (by decide)
theorem RowR.readsI {w : World} {P : Nat → Prop} {v : Value} {l : List Item} (h : RowR 47 3 encI w P v l) : ReadsI w w.heap.size v l := by
  obtain ⟨o, c, hv, q1, q2, q3, q4⟩ := h.shape (fun _ => rfl)
  refine ⟨o, c, hv, fun j x hj => ?_⟩
  obtain ⟨g, hg, hx⟩ := q4 j x hj
  have h0 := hx 0 (by omega)
  have h1 := hx 1 (by omega)
  have h2 := hx 2 (by omega)
  rw [Nat.add_zero] at h0
  exact ⟨g, 0, hg, h.lt g (by rw [hv, hg]; rfl), q1, by rw [Nat.zero_add]; exact h0, by rw [Nat.zero_add]; exact h1, by rw [Nat.zero_add]; exact h2⟩

theorem turned_below {w w' : World} (h : Below w.heap.size w w') : Turned (fun _ => False) w w' := ⟨h.os, h.tape, h.output, h.size, fun k hk _ => h.block k hk⟩
/-- A row of lines of the call's own: its block came since w0; what lay at w0 is as it was. -/
def RowI (w0 w : World) (v : Value) (l : List Item) : Prop := RowR 47 3 encI w (fun n => w0.heap.size ≤ n ∧ n < w.heap.size) v l ∧ Below w0.heap.size w0 w
section
variable {w0 w w' : World} {v : Value} {l : List Item}
theorem RowI.start (h : Below w0.heap.size w0 w) : RowI w0 w (.slice none 0 0) [] := ⟨RowR.nil _ _ _ _ _, h⟩
theorem RowI.back (h : RowI w0 w v l) : Below w0.heap.size w0 w := h.2
theorem RowI.reads (h : RowI w0 w v l) : ReadsI w w.heap.size v l := h.1.readsI
theorem RowI.below (h : RowI w0 w v l) (hb : Below w.heap.size w w') : RowI w0 w' v l :=
  ⟨(h.1.kept (turned_below hb) (fun _ _ h => h)).wider (fun _ hn => ⟨hn.1, Nat.lt_of_lt_of_le hn.2 hb.size⟩), h.2.trans (hb.mono h.2.size)⟩
/-- One line more. -/
theorem RowI.push (h : RowI w0 w v l) (x : Item) (hl : l.length < 1000000) (ty : TypeId) :
    ∃ o c w', (Builtin.append_ #[23, 23] ty #[v, .slice (some ⟨w.heap.size, 0, none⟩) 1 1]).run Tryd.prog (w.alloc (.cells #[.int .i64 (x.1 : Nat), .bool x.2.1, .string (txt x.2.2)] 47)) = .ok (.slice o (l.length + 1) c) w' ∧ RowI w0 w' (.slice o (l.length + 1) c) (l ++ [x]) := by
  have hba : Below w.heap.size w (w.alloc (.cells #[.int .i64 (x.1 : Nat), .bool x.2.1, .string (txt x.2.2)] 47)) := (Below.refl _ w).alloc (Nat.le_refl _) _
  have h9 := h.below hba
  have hx9 := World.alloc_heap_new w (.cells #[.int .i64 (x.1 : Nat), .bool x.2.1, .string (txt x.2.2)] 47)
  obtain ⟨v', w', hrun, hR, hT, o, c, rfl⟩ := RowR.push rowLines h9.1 x rfl (by simp [Value.oneCell']) w.heap.size 1 (0, 0) hx9 (by omega) ty
  refine ⟨o, c, w', hrun, hR.tight.wider (fun n hn => ⟨?_, hn.2⟩), h9.2.trans (hT.below (by exact h9.2.size) fun n hn => hn.1)⟩
  rcases hn.1 with hn | hn
  · exact hn.1
  · rw [hn]; exact h9.2.size
end

end Go.Proofs.YtldddecaeloohaaDoor
