/-
  From a call that answers true and turns nothing that lay to the row's last word, where an argument is a list of texts. Plain carrying, no condition of its own.
-/
import Derived.ProofKit
import Derived.SliceStrings
import Derived.Carry
import Derived.SizedLaws
import Derived.Test.YtllkibdpjpdbbaaDoorRowP
import Derived.Below
import Derived.RangeFuncRecord
import Derived.Maps.AppendAt
namespace Go.Proofs.YtllkibdpjpdbbaaDoor
open Go.ChangeShapes Go.WideShapes Go.ChangeAt Go.RowKit

/-- The value v reads as the texts xs, out of blocks below B; an empty list may lie anywhere. -/
def ReadsO (W : World) (B : Nat) (v : Value) (xs : List ByteArray) : Prop :=
  ∃ o c, v = .slice o xs.length c ∧ ∀ j x, xs[j]? = some x → ∃ b f, o = some ⟨b, f, none⟩ ∧ b < B ∧ xs.length ≤ c ∧ W.cell? ⟨b, f + j, none⟩ = some (.string x)

theorem ReadsO.below {W W' : World} {B B' : Nat} {v : Value} {xs : List ByteArray} (h : ReadsO W B v xs) (hb : Below B W W') (hB : B ≤ B') : ReadsO W' B' v xs := by
  obtain ⟨o, c, hv, hx⟩ := h
  refine ⟨o, c, hv, fun j x hj => ?_⟩
  obtain ⟨b, f, h1, h2, h3, h4⟩ := hx j x hj
  exact ⟨b, f, h1, by omega, h3, (hb.cell (p := ⟨b, f + j, none⟩) h2).trans h4⟩
theorem ReadsO.of_owns {W : World} {base : Nat} {v : Value} {xs : List ByteArray} (h : W.ownsRow base 9 1 v xs.length (xs.map Value.string)) : ReadsO W W.heap.size v xs := by
  rcases h.2 with ⟨hv, hn⟩ | ⟨g, cap, cur, hv, hb, hg, hk, hm, hs, ht⟩
  · have : xs = [] := List.eq_nil_of_length_eq_zero hn
    subst this
    exact ⟨none, 0, hv, by simp⟩
  · refine ⟨some ⟨g, 0, none⟩, cap, hv, fun j x hj => ⟨g, 0, rfl, (Array.getElem?_eq_some_iff.1 hg).1, hk, ?_⟩⟩
    have hj' : j < xs.length := (List.getElem?_eq_some_iff.1 hj).1
    have e1 : (xs.map Value.string)[j]? = some (.string x) := by rw [List.getElem?_map, hj]; rfl
    rw [← ht, List.getElem?_take_of_lt (by omega)] at e1
    have e2 : cur[j]? = some (.string x) := by rw [← Array.getElem?_toList]; exact e1
    simp [World.cell?, hg, e2]
theorem built_readsO (W : World) (xs : List ByteArray) : ReadsO (W.alloc (.cells (xs.map Value.string).toArray 9)) (W.heap.size + 1) (.slice (some ⟨W.heap.size, 0, none⟩) xs.length xs.length) xs := by
  refine ⟨some ⟨W.heap.size, 0, none⟩, xs.length, rfl, fun j x hj => ⟨W.heap.size, 0, rfl, by omega, Nat.le_refl _, ?_⟩⟩
  have e : (W.alloc (.cells (xs.map Value.string).toArray 9)).heap[W.heap.size]? = some (.cells (xs.map Value.string).toArray 9) := World.alloc_heap_new W _
  unfold World.cell?
  simp only [e]
  simp [hj]

theorem cells_string : Tryd.prog.cellsOf 9 = 1 := by kernel_rfl

/-- The value v is the row of the texts xs: nil, or an array's part that holds them. -/
def RowOf (W : World) (B : Nat) (v : Value) (xs : List ByteArray) : Prop :=
  (v = .slice none 0 0 ∧ xs = []) ∨ ∃ (a : Addr) (c : Nat), v = .slice (some a) xs.length c ∧ ∀ j x, xs[j]? = some x → a.spot = none ∧ a.block < B ∧ xs.length ≤ c ∧ W.cell? ⟨a.block, a.off + j, none⟩ = some (.string x)
theorem RowOf.below {W W' : World} {B B' : Nat} {v : Value} {xs : List ByteArray} (h : RowOf W B v xs) (hb : Below B W W') (hB : B ≤ B') : RowOf W' B' v xs := by
  rcases h with h | ⟨a, c, hv, hx⟩
  · exact .inl h
  · refine .inr ⟨a, c, hv, fun j x hj => ?_⟩
    obtain ⟨h1, h2, h3, h4⟩ := hx j x hj
    exact ⟨h1, by omega, h3, (hb.cell (p := ⟨a.block, a.off + j, none⟩) h2).trans h4⟩
theorem RowOf.reads {W : World} {B : Nat} {v : Value} {xs : List ByteArray} (h : RowOf W B v xs) : ReadsO W B v xs := by
  rcases h with ⟨rfl, rfl⟩ | ⟨a, c, rfl, hx⟩
  · exact ⟨none, 0, rfl, by simp⟩
  · refine ⟨some a, c, rfl, fun j x hj => ?_⟩
    obtain ⟨h1, h2, h3, h4⟩ := hx j x hj
    obtain ⟨b, o, sp⟩ := a
    obtain rfl : sp = none := h1
    exact ⟨b, o, rfl, h2, h3, h4⟩
theorem built_row (W : World) (xs : List ByteArray) : RowOf (W.alloc (.cells (xs.map Value.string).toArray 9)) (W.heap.size + 1) (.slice (some ⟨W.heap.size, 0, none⟩) xs.length xs.length) xs := by
  refine .inr ⟨⟨W.heap.size, 0, none⟩, xs.length, rfl, fun j x hj => ⟨rfl, by simp, Nat.le_refl _, ?_⟩⟩
  have e : (W.alloc (.cells (xs.map Value.string).toArray 9)).heap[W.heap.size]? = some (.cells (xs.map Value.string).toArray 9) := World.alloc_heap_new W _
  unfold World.cell?
  simp only [e]
  simp [hj]

set_option maxRecDepth 100000 in
/-- A list of texts that came in reads as some texts, and reads so behind the call. -/
theorem open_list {H : Type} {enc : TypeId × Value → H} {W : World} {base : Nat} {v : Value} {d : DataW H} {ps : List MemPlace}
    (hv : Value.okWide Tryd.prog W .any base 22 v) (h : DataW.Trod enc Tryd.prog W 0 (fun _ => true) true 22 v d ps) (hlt : ∀ x ∈ ps, x.block < W.heap.size) :
    (∃ xs : List ByteArray, xs.length ≤ maxLen ∧ (∀ x ∈ xs, x.size ≤ maxLen) ∧ RowOf W W.heap.size v xs ∧ (xs = [] ∨ ∃ es sp : List (DataW H), d = .slice es sp ∧ es.length = xs.length)) ∧
    ∀ W', Below W.heap.size W W' → DataW.Trod enc Tryd.prog W' 0 (fun b => decide (b < W.heap.size)) true 22 v d ps := by
  refine ⟨?_, fun W' hb => Below.trod laid_out (by kernel_rfl) (of_decide_eq_true (by kernel_rfl)) h hb hlt⟩
  obtain ⟨a0, len, cap, rfl⟩ := okWide_slice Tryd.underlying22 hv
  obtain ⟨fuel, hf⟩ := h
  rcases open_strings Tryd.underlying22 Tryd.underlying9 cells_string hf with ⟨hcs, hx⟩ | ⟨a, len', cap', ss, hcs, _, hl, hm, hz, hx, hcell, hws⟩
  · simp [Value.cells] at hcs
    obtain ⟨rfl, rfl, rfl⟩ := hcs
    exact ⟨[], by simp, by simp, .inl ⟨rfl, rfl⟩, .inl rfl⟩
  · simp [Value.cells] at hcs
    obtain ⟨rfl, rfl, rfl⟩ := hcs
    simp only [Prod.mk.injEq] at hx
    obtain ⟨rfl, rfl⟩ := hx
    simp only [if_true] at hz
    have hlen : (ss.take len).length = len := by rw [List.length_take]; omega
    refine ⟨ss.take len, by omega, fun x hx => hws x (List.mem_of_mem_take hx), .inr ⟨a, cap, by rw [hlen], fun k x hk => ?_⟩, .inr ⟨_, _, rfl, by simp [strs]⟩⟩
    have hk1 : k < len := by have := (List.getElem?_eq_some_iff.1 hk).1; omega
    have hk2 : k < ss.length := by omega
    rw [List.getElem?_take_of_lt hk1, List.getElem?_eq_getElem hk2] at hk
    have hc := hcell k hk2
    obtain ⟨b, off, spot⟩ := a
    have hspot : spot = none := by simpa [Addr.add] using World.cell?_spot (hcell 0 (by omega))
    subst hspot
    refine ⟨rfl, hlt (.cell b (off + k)) (MemPlace.mem_row.2 ⟨k, hk2, by simp⟩), by omega, ?_⟩
    rw [add_plain] at hc
    rw [hc, ← Option.some.inj hk]
    simp [List.getD, List.getElem?_eq_getElem hk2]

theorem bytes_string : Tryd.prog.bytesOf 9 = 16 := by kernel_rfl
/-- A list that came in takes no more bytes than can lie in memory. -/
theorem sized_list {H : Type} {ts : List TypeId} {ds : List (DataW H)} (hsz : (DataW.weightsEach Tryd.prog ts ds).all (· ≤ reachBytes) = true) {j : Nat} {d : DataW H} {xs : List ByteArray} (ht : ts[j]? = some 22) (hd : ds[j]? = some d)
    (h : xs = [] ∨ ∃ es sp : List (DataW H), d = .slice es sp ∧ es.length = xs.length) : xs.length * 16 ≤ 140737488351232 := by
  rcases h with rfl | ⟨es, sp, rfl, he⟩
  · simp
  · have := sized_slice hsz ht hd Tryd.underlying22
    rw [bytes_string] at this
    unfold reachBytes at this
    rw [← he]
    omega

end Go.Proofs.YtllkibdpjpdbbaaDoor
