/-
  A list of lists of texts that came in reads as such, and reads so behind the call. Plain carrying, no condition of its own.
-/
import Derived.ChangeArms
import Derived.Deep.Slices
import Derived.Test.YtllkibdpjpdbbaaDoorRowL
import Derived.Test.YtllkibdpjpdbbaaDoorLScan
namespace Go.Proofs.YtllkibdpjpdbbaaDoor
open Go.ChangeShapes Go.WideShapes Go.ChangeAt Go.RowKit

theorem cells_list : Tryd.prog.cellsOf 22 = 1 := by kernel_rfl
theorem cell_of_one {W : World} {x : Addr} {cs : List Value} (h : W.cells? 0 x 1 = some cs) : ∃ c, cs = [c] ∧ W.cell? x = some c := by
  obtain ⟨c, rfl⟩ : ∃ c, cs = [c] := by
    unfold World.cells? at h
    split at h
    · simp only [List.range_one, List.mapM_cons, List.mapM_nil, Option.bind_eq_bind, Option.pure_def] at h
      cases hc : W.cell? (x.add 0) with
      | none => rw [hc] at h; simp at h
      | some c => rw [hc] at h; simp at h; exact ⟨c, h.symm⟩
    · cases h
  exact ⟨c, rfl, cell_of_cells?_one h⟩

/-- What one row reads as. -/
def RowIs (W : World) (B : Nat) (a : Addr) (i : Nat) (xs : List ByteArray) : Prop := ∃ u, W.cell? (a.add i) = some u ∧ ReadsO W B u xs ∧ xs.length ≤ maxLen ∧ ∀ x ∈ xs, x.size ≤ maxLen

set_option maxRecDepth 100000 in
theorem open_lists {H : Type} {enc : TypeId × Value → H} {W : World} {base : Nat} {v : Value} {d : DataW H} {ps : List MemPlace}
    (hv : Value.okWide Tryd.prog W .any base 30 v) (h : DataW.Trod enc Tryd.prog W 0 (fun _ => true) true 30 v d ps) (hlt : ∀ x ∈ ps, x.block < W.heap.size) :
    (∃ xss : List (List ByteArray), xss.length ≤ maxLen ∧ (∀ l ∈ xss, l.length ≤ maxLen ∧ ∀ x ∈ l, x.size ≤ maxLen) ∧ ReadsLL W W.heap.size v xss) ∧
    ∀ W', Below W.heap.size W W' → DataW.Trod enc Tryd.prog W' 0 (fun b => decide (b < W.heap.size)) true 30 v d ps := by
  refine ⟨?_, fun W' hb => Below.trod laid_out (by kernel_rfl) (of_decide_eq_true (by kernel_rfl)) h hb hlt⟩
  obtain ⟨a0, len, cap, rfl⟩ := okWide_slice Tryd.underlying30 hv
  obtain ⟨fuel, hf⟩ := h
  rcases DataW.trod_slice Tryd.underlying30 hf with ⟨hcs, hx⟩ | ⟨a, len', cap', elems, rest, n, _, hcs, hx, _, hl, hm, hlen, hel, hsp, _⟩
  · simp [Value.cells] at hcs
    obtain ⟨rfl, rfl, rfl⟩ := hcs
    exact ⟨[], by simp, by simp, none, 0, rfl, by simp⟩
  · simp [Value.cells] at hcs
    obtain ⟨rfl, rfl, rfl⟩ := hcs
    simp only [Prod.mk.injEq] at hx
    obtain ⟨rfl, rfl⟩ := hx
    have hrow : ∀ j, j < (elems.length + rest.length) * Tryd.prog.cellsOf 22 → a.block < W.heap.size := by
      intro j hj
      exact hlt (.cell a.block (a.off + j)) (List.mem_append_left _ (MemPlace.mem_row.2 ⟨j, hj, rfl⟩))
    have each : ∀ i, i < len → ∃ xs, RowIs W W.heap.size a i xs := by
      intro i hi
      have hy := hel i hi
      have hie : i < elems.length := by omega
      rw [List.getElem?_eq_getElem hie, cells_list, Nat.mul_one, Option.bind_eq_some_iff] at hy
      obtain ⟨cs, hc1, hc2⟩ := hy
      obtain ⟨u, rfl, hu⟩ := cell_of_one hc1
      have hpl : ∀ p ∈ elems[i].2, p.block < W.heap.size := fun p hp => hlt p (List.mem_append_right _ (List.mem_flatMap.2 ⟨elems[i], by simp, hp⟩))
      rcases open_strings Tryd.underlying22 Tryd.underlying9 cells_string hc2 with ⟨hcs, _⟩ | ⟨a', l', c', ss, hcs, _, hl', hm', hz, hxx, hcell, hws⟩
      · cases hcs
        exact ⟨[], _, hu, ⟨none, 0, rfl, by simp⟩, by simp, by simp⟩
      · cases hcs
        simp only [if_true] at hz
        have hlen' : (ss.take l').length = l' := by rw [List.length_take]; omega
        refine ⟨ss.take l', _, hu, ⟨some a', c', by rw [hlen'], fun k x hk => ?_⟩, by omega, fun x hx => hws x (List.mem_of_mem_take hx)⟩
        have hk1 : k < l' := by have := (List.getElem?_eq_some_iff.1 hk).1; omega
        have hk2 : k < ss.length := by omega
        rw [List.getElem?_take_of_lt hk1, List.getElem?_eq_getElem hk2] at hk
        have hc := hcell k hk2
        obtain ⟨b, off, spot⟩ := a'
        have hspot : spot = none := by simpa [Addr.add] using World.cell?_spot (hcell 0 (by omega))
        subst hspot
        refine ⟨b, off, rfl, hpl (.cell b (off + k)) ?_, by omega, ?_⟩
        · rw [hxx]; exact MemPlace.mem_row.2 ⟨k, hk2, rfl⟩
        · rw [add_plain] at hc
          rw [hc, ← Option.some.inj hk]
          simp [List.getD, List.getElem?_eq_getElem hk2]
    obtain ⟨f, hf⟩ : ∃ f : Nat → List ByteArray, ∀ i, i < len → RowIs W W.heap.size a i (f i) := by
      classical
      exact ⟨fun i => if h : i < len then Classical.choose (each i h) else [], fun i hi => by simp only [hi, dif_pos]; exact Classical.choose_spec (each i hi)⟩
    refine ⟨(List.range len).map f, by simp; omega, ?_, some a, cap, by simp, ?_⟩
    · intro l hl2
      obtain ⟨i, hi, rfl⟩ := List.mem_map.1 hl2
      obtain ⟨u, _, _, h3, h4⟩ := hf i (List.mem_range.1 hi)
      exact ⟨h3, h4⟩
    · intro i xs hi
      rw [List.getElem?_map] at hi
      have hil : i < len := by
        cases hr : (List.range len)[i]? with
        | none => rw [hr] at hi; cases hi
        | some j => have := (List.getElem?_eq_some_iff.1 hr).1; simpa using this
      rw [List.getElem?_range hil] at hi
      cases hi
      obtain ⟨u, h1, h2, _, _⟩ := hf i hil
      obtain ⟨b, off, spot⟩ := a
      obtain ⟨u0, h0, _⟩ := hf 0 (by omega)
      have hspot : spot = none := by simpa [Addr.add] using World.cell?_spot h0
      subst hspot
      rw [add_plain] at h1
      refine ⟨b, off, u, rfl, hrow 0 (by rw [cells_list, hlen]; omega), by simp; omega, h1, h2⟩

end Go.Proofs.YtllkibdpjpdbbaaDoor
