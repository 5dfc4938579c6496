/-
  What the laws' walks share: rows of words that were told, cell by cell; of's answers at what Call answers. No condition.
-/
import Derived.Test.YtfdlcmjjnoapfaaGreatDoorNOf
import Derived.Test.YtfdlcmjjnoapfaaGreatDoorNWd
namespace Go.Proofs.YtfdlcmjjnoapfaaGreatDoor
open Go.RowKit Go.Shelf

/-- The slice's cells hold the texts. -/
def CellsW (W : World) (o : Option Addr) (c : Nat) (l : List BT) : Prop :=
  ∀ k x, l[k]? = some x → ∃ b f, o = some ⟨b, f, none⟩ ∧ b < W.heap.size ∧ l.length ≤ c ∧ W.cell? ⟨b, f + k, none⟩ = some (.string (txt x))
theorem CellsW.below {W W' : World} {o : Option Addr} {c : Nat} {l : List BT} (h : CellsW W o c l) (hb : Below W.heap.size W W') : CellsW W' o c l := fun k x hk => by
  obtain ⟨b, f, h1, h2, h3, h4⟩ := h k x hk
  exact ⟨b, f, h1, Nat.lt_of_lt_of_le h2 hb.size, h3, (hb.cell (p := ⟨b, f + k, none⟩) h2).trans h4⟩
theorem CellsW.reads {W : World} {o : Option Addr} {c : Nat} {l : List BT} (h : CellsW W o c l) : ReadsO W W.heap.size (.slice o l.length c) (l.map txt) :=
  ⟨o, c, by rw [List.length_map], fun k x hk => by
    rw [List.getElem?_map] at hk
    obtain ⟨y, hy, rfl⟩ := Option.map_eq_some_iff.1 hk
    obtain ⟨b, f, h1, h2, h3, h4⟩ := h k y hy
    exact ⟨b, f, h1, h2, by rw [List.length_map]; exact h3, h4⟩⟩
theorem words_told (s : ByteArray) (hs : s.size ≤ 8796093022207) (W : World) :
    Calls Tryz.prog 19 #[.string s] W fun e W' => ∃ o c, e = .returned (.slice o (wordsT s.data.toList).length c) ∧ CellsW W' o c (wordsT s.data.toList) ∧ Below W.heap.size W W' := by
  refine (words_any s hs W).mono ?_
  rintro e W' ⟨v, rfl, hr, hb⟩
  obtain ⟨o, c, rfl, hx⟩ := hr.o
  rw [wordsT_of, List.length_map] at hx ⊢
  refine ⟨o, c, rfl, fun k x hk => ?_, hb⟩
  exact hx k (txt x) (by rw [List.getElem?_map, hk]; rfl)
theorem words_toldT (t : BT) (hs : t.length ≤ 8796093022207) (W : World) :
    Calls Tryz.prog 19 #[.string (txt t)] W fun e W' => ∃ o c, e = .returned (.slice o (wordsT t).length c) ∧ CellsW W' o c (wordsT t) ∧ Below W.heap.size W W' := by
  have := words_told (txt t) (by rw [txt_size]; exact hs) W
  rw [txt_data] at this
  exact this
/-- A word's own answer, where it is known. -/
theorem of1_is (s : ByteArray) (a r : BT) (ha : a.length ≤ 1000000) (h : (callT s.data.toList [a]).1 = r) (w : World) (hst : Std w) :
    Calls Tryz.prog 18 #[.string s, .slice (some ⟨w.heap.size, 0, none⟩) 1 1] (w.alloc (.cells #[.string (txt a)] 9)) fun e w' => e = .returned (.string (txt r)) ∧ Below w.heap.size w w' := by
  have := of1 s (txt a) (by rw [txt_size]; exact ha) w hst
  unfold OfPost at this
  rw [txt_data, h] at this
  exact this
theorem of2_is (s : ByteArray) (a b r : BT) (ha : a.length ≤ 1000000) (hb : b.length ≤ 1000000) (h : (callT s.data.toList [a, b]).1 = r) (w : World) (hst : Std w) :
    Calls Tryz.prog 18 #[.string s, .slice (some ⟨w.heap.size, 0, none⟩) 2 2] (w.alloc (.cells #[.string (txt a), .string (txt b)] 9)) fun e w' => e = .returned (.string (txt r)) ∧ Below w.heap.size w w' := by
  have := of2 s (txt a) (txt b) (by rw [txt_size]; exact ha) (by rw [txt_size]; exact hb) w hst
  unfold OfPost at this
  rw [txt_data, txt_data, h] at this
  exact this
theorem of3_is (s : ByteArray) (a b c r : BT) (ha : a.length ≤ 1000000) (hb : b.length ≤ 1000000) (hc : c.length ≤ 1000000) (h : (callT s.data.toList [a, b, c]).1 = r) (w : World) (hst : Std w) :
    Calls Tryz.prog 18 #[.string s, .slice (some ⟨w.heap.size, 0, none⟩) 3 3] (w.alloc (.cells #[.string (txt a), .string (txt b), .string (txt c)] 9)) fun e w' => e = .returned (.string (txt r)) ∧ Below w.heap.size w w' := by
  have := of3 s (txt a) (txt b) (txt c) (by rw [txt_size]; exact ha) (by rw [txt_size]; exact hb) (by rw [txt_size]; exact hc) w hst
  unfold OfPost at this
  rw [txt_data, txt_data, txt_data, h] at this
  exact this
/-- .. over a row that reads. -/
theorem of1_at (s : ByteArray) (a r : BT) (ha : a.length ≤ 1000000) (h : (callT s.data.toList [a]).1 = r) (b : Nat) (w : World) (hst : Std w) (hb : w.cell? ⟨b, 0, none⟩ = some (.string (txt a))) (hl : b < w.heap.size) :
    Calls Tryz.prog 18 #[.string s, .slice (some ⟨b, 0, none⟩) 1 1] w fun e w' => e = .returned (.string (txt r)) ∧ Below w.heap.size w w' := by
  have := of_any s (.slice (some ⟨b, 0, none⟩) 1 1) [txt a] (fun y hy => by simp at hy; rw [hy, txt_size]; exact ha) w hst ⟨_, _, rfl, fun k x hk => by
    cases k with
    | zero => simp at hk; subst hk; exact ⟨b, 0, rfl, hl, Nat.le_refl _, hb⟩
    | succ k => simp at hk⟩
  unfold OfPost at this
  rw [List.map_cons, List.map_nil, txt_data, h] at this
  exact this
theorem tq_t {a b : BT} (h : a = b) : ((txt a).toList == (txt b).toList) = true := by rw [h]; simp
theorem tq_f {a b : BT} (h : a ≠ b) : ((txt a).toList == (txt b).toList) = false := by rw [txt_toL, txt_toL, beq_eq_false_iff_ne]; exact h
theorem tn_t {a b : BT} (h : a ≠ b) : ((txt a).toList != (txt b).toList) = true := by rw [bne, tq_f h]; rfl
theorem tn_f {a b : BT} (h : a = b) : ((txt a).toList != (txt b).toList) = false := by rw [bne, tq_t h]; rfl
end Go.Proofs.YtfdlcmjjnoapfaaGreatDoor
