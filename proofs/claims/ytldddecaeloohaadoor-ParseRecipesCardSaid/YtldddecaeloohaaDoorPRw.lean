/-
  Rows of lines of the call's own, made longer by a row that lies anywhere. No condition.
-/
import Derived.Test.YtldddecaeloohaaDoorPSh
namespace Go.Proofs.YtldddecaeloohaaDoor
open Go.RowKit Go.Shelf

theorem rowLexW : RowW 23 47 3 :=
  rowW_of (.agg #[.int .i64 0, .bool false, .string ⟨#[]⟩]) 32 Tryd.underlying23 (by kernel_rfl) (by decide) rfl (by decide)
theorem lines_flat : ∀ q : List LineI, (q.flatMap encL).length = q.length * 3
  | [] => rfl
  | x :: r => by rw [List.flatMap_cons, List.length_append, lines_flat r, List.length_cons]; simp only [List.length_cons, List.length_nil]; omega
/-- A row without an element, built by the call. -/
theorem RowK.built (E : TypeId) {w0 W : World} (h : Below w0.heap.size w0 W) : RowK E w0 (W.alloc (.cells #[] E)) (.slice (some ⟨W.heap.size, 0, none⟩) 0 0) [] := by
  refine ⟨⟨World.ownsRow_lit W #[] 0 (Nat.zero_le _) (Nat.zero_le _) rfl, fun g hg => ?_⟩, h.alloc h.size _⟩
  simp [Value.ownBlock] at hg
  subst hg
  exact ⟨h.size, by simp⟩
/-- All elements of a row more. -/
theorem RowK.append {t E : TypeId} {w0 w : World} {v u : Value} {l ys : List LineI} (hT : RowW t E 3) (h : RowK E w0 w v l) (hu : ReadsL w w.heap.size u ys) (hl : l.length + ys.length < 1000000) (ty : TypeId) :
    ∃ o c w', (Builtin.append_ #[t, t] ty #[v, u]).run Tryd.prog w = .ok (.slice o (l.length + ys.length) c) w' ∧ RowK E w0 w' (.slice o (l.length + ys.length) c) (l ++ ys) := by
  obtain ⟨i, z, bytes, hi, hz, hs, hby, hzs, hb64⟩ := hT.info
  obtain ⟨uo, uc, rfl, hx⟩ := hu
  cases uo with
  | none =>
    have hys : ys = [] := by
      cases ys with
      | nil => rfl
      | cons y r => obtain ⟨_, _, h1, _⟩ := hx 0 y rfl; cases h1
    subst hys
    obtain ⟨o, c, rfl, hR⟩ := h.slice
    refine ⟨o, c, w, ?_, by rw [List.append_nil]; exact hR⟩
    rcases hR.1.1.2 with ⟨hv, h0⟩ | ⟨g, cap, cur, hv, _, _, hnc, _⟩
    · have hl0 : l = [] := List.eq_nil_of_length_eq_zero h0
      subst hl0
      simp only [Value.slice.injEq] at hv
      obtain ⟨rfl, _, rfl⟩ := hv
      simp [Builtin.append_, run_underlying hT.under, sizeOf, typeInfo, hi, Builtin.lenOf, Builtin.firstCells]
    · simp only [Value.slice.injEq] at hv
      obtain ⟨rfl, _, rfl⟩ := hv
      simp [Builtin.append_, run_underlying hT.under, sizeOf, typeInfo, hi, Builtin.lenOf, Builtin.firstCells, hnc, storeCells]
  | some a =>
    obtain ⟨v', w', hr, h2, h3, h4, h5⟩ := run_append_own_at (P := Tryd.prog) (w := w) 0 t ty E i z 3 bytes hT.under hi hz hs hby hzs (by decide) v l.length _ h.1.1 a ys.length uc (ys.flatMap encL) (lines_flat ys) (fun j x hjx => by
        have hj : j < ys.length * 3 := by
          have := (List.getElem?_eq_some_iff.1 hjx).1
          rw [lines_flat] at this; exact this
        obtain ⟨q, r, rfl, hr3⟩ : ∃ q r, j = q * 3 + r ∧ r < 3 := ⟨j / 3, j % 3, by omega, by omega⟩
        have hq : q < ys.length := by omega
        obtain ⟨b, f, ha, _, _, c0, c1, c2⟩ := hx q _ (List.getElem?_eq_getElem hq)
        cases ha
        rw [flatMap_get (k := 3) (fun _ => rfl) ys q r _ (List.getElem?_eq_getElem hq) hr3] at hjx
        rw [Addr.add_lit]
        match r, hr3, hjx with
        | 0, _, hjx => cases hjx; exact c0
        | 1, _, hjx => cases hjx; exact c1
        | 2, _, hjx => cases hjx; exact c2) (fun x hx => by
        obtain ⟨y, _, hy⟩ := List.mem_flatMap.1 hx
        simp [encL] at hy
        rcases hy with rfl | rfl | rfl <;> simp [Value.oneCell']) (by unfold maxLen; omega) (by
        calc (l.length + ys.length) * bytes ≤ 1000000 * 256 := Nat.mul_le_mul (by omega) hb64
          _ ≤ 140737488355328 := by omega) (Nat.zero_le _)
    have hT3 : Turned (fun n => w0.heap.size ≤ n ∧ n < w.heap.size) w w' := turned_grown h3 h.1.2
    have hB : Below w0.heap.size w0 w' := h.2.trans (hT3.below h.2.size fun n hn => hn.1)
    have hR : RowR E 3 encL w' (fun n => w0.heap.size ≤ n) v' (l ++ ys) := by
      refine ⟨by rw [List.length_append, List.flatMap_append]; exact h2, fun g hg => ?_⟩
      rcases h5 with h5 | h5
      · exact (h.1.2 g (h5 ▸ hg)).1
      · rw [Option.some.inj (hg.symm.trans h5)]; exact h.2.size
    have hK : RowK E w0 w' v' (l ++ ys) := ⟨hR.tight, hB⟩
    obtain ⟨o, c, rfl, hK'⟩ := hK.slice
    rw [List.length_append] at hr hK'
    exact ⟨o, c, w', hr, hK'⟩
/-- One row behind the other, both of which came in, in a row that the call builds. -/
theorem rows_both (W : World) {u v : Value} {l k : List LineI} (hu : ReadsL W W.heap.size u l) (hv : ReadsL W W.heap.size v k) (hl : l.length ≤ 1000) (hk : k.length ≤ 1000) :
    ∃ o1 c1 w1 o2 c2 w2, (Builtin.append_ #[23, 23] 23 #[.slice (some ⟨W.heap.size, 0, none⟩) 0 0, u]).run Tryd.prog (W.alloc (.cells #[] 47)) = .ok (.slice o1 l.length c1) w1 ∧
      (Builtin.append_ #[23, 23] 23 #[.slice o1 l.length c1, v]).run Tryd.prog w1 = .ok (.slice o2 (l.length + k.length) c2) w2 ∧ ReadsL w2 w2.heap.size (.slice o2 (l.length + k.length) c2) (l ++ k) ∧ Below W.heap.size W w2 := by
  have hb0 : Below W.heap.size W (W.alloc (.cells #[] 47)) := (Below.refl _ W).alloc (Nat.le_refl _) _
  have h0 := RowK.built 47 (Below.refl W.heap.size W)
  obtain ⟨o1, c1, w1, r1, h1⟩ := h0.append rowLexW (hu.below hb0 hb0.size) (by simp; omega) 23
  simp only [List.length_nil, Nat.zero_add, List.nil_append] at r1 h1
  obtain ⟨o2, c2, w2, r2, h2⟩ := h1.append rowLexW (hv.below h1.2 h1.2.size) (by omega) 23
  exact ⟨o1, c1, w1, o2, c2, w2, r1, r2, h2.reads, h2.2⟩
end Go.Proofs.YtldddecaeloohaaDoor
