/-
  A row of texts, or of lines, that came in reads as such, and reads so behind the call. Plain carrying, no condition of its own.
-/
import Derived.ChangeArms
import Derived.Deep.Slices
import Derived.SliceStrings
import Derived.ProofKit
import Derived.Carry
import Derived.OpenShut
import Derived.RangeFuncRecord
import Derived.Maps.AppendAt
import Derived.Test.YtldddecaeloohaaDoorRowP
import Derived.Test.YtldddecaeloohaaDoorPRd
namespace Go.Proofs.YtldddecaeloohaaDoor
open Go.ChangeShapes Go.WideShapes Go.ChangeAt Go.RowKit

theorem cells_string : Tryd.prog.cellsOf 9 = 1 := by kernel_rfl

/-- The value v is the row of the texts xs: nil, or an array's part that holds them. -/
def RowOf (W : World) (B : Nat) (v : Value) (xs : List ByteArray) : Prop :=
  (v = .slice none 0 0 ∧ xs = []) ∨ ∃ (a : Addr) (c : Nat), v = .slice (some a) xs.length c ∧ ∀ j x, xs[j]? = some x → a.spot = none ∧ a.block < B ∧ xs.length ≤ c ∧ W.cell? ⟨a.block, a.off + j, none⟩ = some (.string x)
theorem RowOf.below {W W' : World} {B B' : Nat} {v : Value} {xs : List ByteArray} (h : RowOf W B v xs) (hb : Below B W W') (hB : B ≤ B') : RowOf W' B' v xs := by
  rcases h with h | ⟨a, c, hv, hx⟩
  · exact .inl h
  · refine .inr ⟨a, c, hv, fun j x hj => ?_⟩
    obtain ⟨h1, h2, h3, h4⟩ := hx j x hj
    exact ⟨h1, by omega, h3, (hb.cell (p := ⟨a.block, a.off + j, none⟩) h2).trans h4⟩
theorem RowOf.reads {W : World} {B : Nat} {v : Value} {xs : List ByteArray} (h : RowOf W B v xs) : ReadsO W B v xs := by
  rcases h with ⟨rfl, rfl⟩ | ⟨a, c, rfl, hx⟩
  · exact ⟨none, 0, rfl, by simp⟩
  · refine ⟨some a, c, rfl, fun j x hj => ?_⟩
    obtain ⟨h1, h2, h3, h4⟩ := hx j x hj
    obtain ⟨b, o, sp⟩ := a
    obtain rfl : sp = none := h1
    exact ⟨b, o, rfl, h2, h3, h4⟩
set_option maxRecDepth 100000 in
/-- A list of texts that came in reads as some texts, and reads so behind the call. -/
theorem open_list {H : Type} {enc : TypeId × Value → H} {W : World} {base : Nat} {v : Value} {d : DataW H} {ps : List MemPlace}
    (hv : Value.okWide Tryd.prog W .any base 41 v) (h : DataW.Trod enc Tryd.prog W 0 (fun _ => true) true 41 v d ps) (hlt : ∀ x ∈ ps, x.block < W.heap.size) :
    (∃ xs : List ByteArray, xs.length ≤ maxLen ∧ (∀ x ∈ xs, x.size ≤ maxLen) ∧ RowOf W W.heap.size v xs ∧ (xs = [] ∨ ∃ es sp : List (DataW H), d = .slice es sp ∧ es.length = xs.length)) ∧
    ∀ W', Below W.heap.size W W' → DataW.Trod enc Tryd.prog W' 0 (fun b => decide (b < W.heap.size)) true 41 v d ps := by
  refine ⟨?_, fun W' hb => Below.trod laid_out (by kernel_rfl) (of_decide_eq_true (by kernel_rfl)) h hb hlt⟩
  obtain ⟨a0, len, cap, rfl⟩ := okWide_slice Tryd.underlying41 hv
  obtain ⟨fuel, hf⟩ := h
  rcases open_strings Tryd.underlying41 Tryd.underlying9 cells_string hf with ⟨hcs, hx⟩ | ⟨a, len', cap', ss, hcs, _, hl, hm, hz, hx, hcell, hws⟩
  · simp [Value.cells] at hcs
    obtain ⟨rfl, rfl, rfl⟩ := hcs
    exact ⟨[], by simp, by simp, .inl ⟨rfl, rfl⟩, .inl rfl⟩
  · simp [Value.cells] at hcs
    obtain ⟨rfl, rfl, rfl⟩ := hcs
    simp only [Prod.mk.injEq] at hx
    obtain ⟨rfl, rfl⟩ := hx
    simp only [if_true] at hz
    have hlen : (ss.take len).length = len := by rw [List.length_take]; omega
    refine ⟨ss.take len, by omega, fun x hx => hws x (List.mem_of_mem_take hx), .inr ⟨a, cap, by rw [hlen], fun k x hk => ?_⟩, .inr ⟨_, _, rfl, by simp [strs]⟩⟩
    have hk1 : k < len := by have := (List.getElem?_eq_some_iff.1 hk).1; omega
    have hk2 : k < ss.length := by omega
    rw [List.getElem?_take_of_lt hk1, List.getElem?_eq_getElem hk2] at hk
    have hc := hcell k hk2
    obtain ⟨b, off, spot⟩ := a
    have hspot : spot = none := by simpa [Addr.add] using World.cell?_spot (hcell 0 (by omega))
    subst hspot
    refine ⟨rfl, hlt (.cell b (off + k)) (MemPlace.mem_row.2 ⟨k, hk2, by simp⟩), by omega, ?_⟩
    rw [add_plain] at hc
    rw [hc, ← Option.some.inj hk]
    simp [List.getD, List.getElem?_eq_getElem hk2]

theorem line_cells : Tryd.prog.cellsOf 47 = 3 := by kernel_rfl
theorem cells_at {W : World} {x : Addr} {n : Nat} {cs : List Value} (h : W.cells? 0 x n = some cs) : cs.length = n ∧ ∀ i, i < n → W.cell? (x.add i) = cs[i]? := by
  unfold World.cells? at h
  split at h
  · exact ⟨by simpa using mapM_some_length h, fun i hi => mapM_some_get h i i (by simp [hi])⟩
  · cases h

abbrev lineCells (x : LineI) : List Value := [.int .i64 x.1, .bool x.2.1, .string (txt x.2.2)]
/-- What one line reads as. -/
def LineAt (W : World) (x : Addr) (a : LineI) : Prop := ∀ i, i < 3 → W.cell? (x.add i) = (lineCells a)[i]?
set_option maxRecDepth 100000 in
theorem line_open {H : Type} {enc : TypeId × Value → H} {W : World} {n : Nat} {x : Addr} {cs : List Value} {y : DataW H × List MemPlace} (hc : W.cells? 0 x 3 = some cs) (h : DataW.trod enc Tryd.prog W 0 (fun _ => true) true n 47 cs = some y) : ∃ a, LineAt W x a := by
  obtain ⟨hl, hcell⟩ := cells_at hc
  obtain ⟨xs, m, _, _, _, hlen, hf⟩ := DataW.trod_struct Tryd.underlying47 h
  obtain ⟨y0, y1, y2, rfl⟩ : ∃ y0 y1 y2, xs = [y0, y1, y2] := by
    match xs, hlen with
    | [y0, y1, y2], _ => exact ⟨y0, y1, y2, rfl⟩
  obtain ⟨c0, c1, c2, rfl⟩ : ∃ c0 c1 c2, cs = [c0, c1, c2] := by
    match cs, hl with
    | [c0, c1, c2], _ => exact ⟨c0, c1, c2, rfl⟩
  have e1 : Tryd.prog.cellsOf 3 = 1 := by kernel_rfl
  have e2 : Tryd.prog.cellsOf 4 = 1 := by kernel_rfl
  have e3 : Tryd.prog.cellsOf 9 = 1 := by kernel_rfl
  have h0 := hf 0 _ rfl
  have h1 := hf 1 _ rfl
  have h2 := hf 2 _ rfl
  simp only [List.getElem?_cons_zero, List.getElem?_cons_succ] at h0 h1 h2
  obtain ⟨i0, q0, _, w0⟩ := DataW.trod_int Tryd.underlying3 h0
  obtain ⟨b1, q1, _⟩ := DataW.trod_bool Tryd.underlying4 h1
  obtain ⟨s2, q2, _, w2⟩ := DataW.trod_string Tryd.underlying9 h2
  cases q0; cases q1; cases q2
  refine ⟨(i0, b1, s2.data.toList), ?_⟩
  unfold LineAt lineCells
  rw [txt_toList]
  exact hcell
set_option maxRecDepth 100000 in
/-- A list of lines that came in reads as some lines, and reads so behind the call. -/
theorem open_lines {H : Type} {enc : TypeId × Value → H} {W : World} {base : Nat} {v : Value} {d : DataW H} {ps : List MemPlace}
    (hv : Value.okWide Tryd.prog W .any base 23 v) (h : DataW.Trod enc Tryd.prog W 0 (fun _ => true) true 23 v d ps) (hlt : ∀ x ∈ ps, x.block < W.heap.size) :
    (∃ al : List LineI, al.length ≤ maxLen ∧ ReadsL W W.heap.size v al) ∧
    ∀ W', Below W.heap.size W W' → DataW.Trod enc Tryd.prog W' 0 (fun b => decide (b < W.heap.size)) true 23 v d ps := by
  refine ⟨?_, fun W' hb => Below.trod laid_out (by kernel_rfl) (of_decide_eq_true (by kernel_rfl)) h hb hlt⟩
  obtain ⟨a0, len, cap, rfl⟩ := okWide_slice Tryd.underlying23 hv
  obtain ⟨fuel, hf⟩ := h
  rcases DataW.trod_slice Tryd.underlying23 hf with ⟨hcs, hx⟩ | ⟨a, len', cap', elems, rest, n, _, hcs, hx, _, hl, hm, hlen, hel, hsp, _⟩
  · simp [Value.cells] at hcs
    obtain ⟨rfl, rfl, rfl⟩ := hcs
    exact ⟨[], by simp, none, 0, rfl, by simp⟩
  · simp [Value.cells] at hcs
    obtain ⟨rfl, rfl, rfl⟩ := hcs
    simp only [Prod.mk.injEq] at hx
    obtain ⟨rfl, rfl⟩ := hx
    have hrow : ∀ j, j < (elems.length + rest.length) * Tryd.prog.cellsOf 47 → a.block < W.heap.size := by
      intro j hj
      exact hlt (.cell a.block (a.off + j)) (List.mem_append_left _ (MemPlace.mem_row.2 ⟨j, hj, rfl⟩))
    have each : ∀ i, i < len → ∃ x, LineAt W (a.add (i * 3)) x := by
      intro i hi
      have hy := hel i hi
      have hie : i < elems.length := by omega
      rw [List.getElem?_eq_getElem hie, line_cells, Option.bind_eq_some_iff] at hy
      obtain ⟨cs, hc1, hc2⟩ := hy
      exact line_open hc1 hc2
    obtain ⟨f, hf⟩ : ∃ f : Nat → LineI, ∀ i, i < len → LineAt W (a.add (i * 3)) (f i) := by
      classical
      exact ⟨fun i => if h : i < len then Classical.choose (each i h) else (0, false, []), fun i hi => by simp only [hi, dif_pos]; exact Classical.choose_spec (each i hi)⟩
    refine ⟨(List.range len).map f, by simp; omega, some a, cap, by simp, ?_⟩
    intro i x hi
    rw [List.getElem?_map] at hi
    have hil : i < len := by
      cases hr : (List.range len)[i]? with
      | none => rw [hr] at hi; cases hi
      | some j => have := (List.getElem?_eq_some_iff.1 hr).1; simpa using this
    rw [List.getElem?_range hil] at hi
    cases hi
    have h1 := hf i hil
    obtain ⟨b, off, spot⟩ := a
    have h0 := hf 0 (by omega) 0 (by omega)
    have hspot : spot = none := by
      rw [show (lineCells (f 0))[0]? = some (.int .i64 (f 0).1) from rfl] at h0
      simpa [Addr.add] using World.cell?_spot h0
    subst hspot
    have g0 := h1 0 (by omega)
    have g1 := h1 1 (by omega)
    have g2 := h1 2 (by omega)
    rw [add_plain, add_plain] at g0 g1 g2
    exact ⟨b, off, rfl, hrow 0 (by rw [line_cells, hlen]; omega), by simp; omega, g0, g1, g2⟩
end Go.Proofs.YtldddecaeloohaaDoor
