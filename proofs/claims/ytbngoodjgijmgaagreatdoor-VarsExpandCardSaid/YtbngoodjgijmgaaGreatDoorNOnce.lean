/-
  What once answers: the words that it is given, sorted, each once; and text.Words with a row of its own. No condition.
-/
import Derived.Sort.OwnSorted
import Derived.Test.YtbngoodjgijmgaaGreatDoorHX
import Derived.Test.YtbngoodjgijmgaaGreatDoorNLeaf
import Derived.Test.YtbngoodjgijmgaaGreatDoorHRf
namespace Go.Proofs.YtbngoodjgijmgaaGreatDoor
open Go.RowKit Go.Shelf Go.Sort

set_option maxHeartbeats 1000000 in
theorem words_own (s : ByteArray) (hs : s.size ≤ 8796093022207) (w : World) :
    Calls Tryz.prog 100 #[.string s] w fun e W' => ∃ v, e = .returned v ∧ W'.ownsRow w.heap.size 9 1 v (wordsT s.data.toList).length ((wordsT s.data.toList).map encStr) ∧ Below w.heap.size w W' := by
  have hm : s.size ≤ maxLen := by unfold maxLen; omega
  have hl := wordsOf_len s.data.toList
  rw [size_list] at hl
  have bS := Boxed.new w 9 (.string s)
  have hG := gather_any 167 #[.pointer (some ⟨w.heap.size, 0, none⟩)] (enters_of Tryz.func167 (by kernel_rfl) rfl) (fun j => j = w.heap.size) (wordsOf s.data.toList) (w.alloc (.cells #[.string s] 9)) w.heap.size (by simp)
    (fun n => words1_tells n s hm w.heap.size _ bS) (by rintro k rfl; simp) (by omega)
  have e1 : (wordsOf s.data.toList).map Value.string = (wordsT s.data.toList).map encStr := by rw [wordsT_of, List.map_map]; rfl
  have e2 : (wordsOf s.data.toList).length = (wordsT s.data.toList).length := by rw [wordsT_of, List.length_map]
  rw [e1, e2] at hG
  have HG := Lib.hid hG
  clear hG hl e1 e2
  go_enter Tryz.func100, Tryz.ntmps100
  go_wp2_with fail
  refine (words0_any s w).mono ?_
  rintro e w' ⟨rfl, rfl⟩
  go_wp2_with fail
  refine HG.out.mono ?_
  rintro e w' ⟨v, rfl, hr, hb⟩
  go_wp2_with fail
  go_ret
  refine ⟨v, rfl, ⟨hr.1, ?_⟩, ((Below.refl _ w).alloc (Nat.le_refl _) _).trans hb⟩
  rcases hr.2 with hn | ⟨g, cap, cur, hv, hg, rest⟩
  · exact .inl hn
  · exact .inr ⟨g, cap, cur, hv, by simp at hg; omega, rest⟩
theorem owns_reads {W : World} {base : Nat} {v : Value} {l : List BT} (h : W.ownsRow base 9 1 v l.length (l.map encStr)) : ReadsO W W.heap.size v (l.map txt) :=
  ReadsO.of_owns (base := base) (by rw [List.length_map, List.map_map]; exact h)

theorem putRow_grown {w : World} {g n : Nat} (d : Array BT) : w.grownBy (putRow encStr (Sort.ahead w n) g 0 d) (some g) := by
  refine ⟨rfl, rfl, rfl, by simp, fun k _ hne => ?_⟩
  have : g ≠ k := fun e => hne (by rw [e])
  simp [putRow, mapBlock, Sort.ahead, Array.getElem?_modify, this]
theorem compact_len (ts : List BT) : (Lib.compact ts).length ≤ ts.length := by
  unfold Lib.compact Lib.compactUpTo
  rw [List.length_map]
  refine Nat.le_trans (List.length_filter_le _ _) ?_
  rw [List.length_range]
  exact Nat.le_refl _

set_option maxHeartbeats 1000000 in
theorem once_any (ss : List BT) (hl : ss.length ≤ 1000000000) (v : Value) (base : Nat) (w : World) (hb : base ≤ w.heap.size) (h : w.ownsRow base 9 1 v ss.length (ss.map encStr)) :
    Calls Tryz.prog 134 #[v] w fun e w' => ∃ o c, e = .returned (.slice o (sortT ss).length c) ∧ ReadsO w' w'.heap.size (.slice o (sortT ss).length c) ((sortT ss).map txt) ∧ Below base w w' := by
  by_cases h0 : ss = []
  · subst h0
    obtain ⟨o, c, rfl⟩ : ∃ o c, v = .slice o 0 c := by
      rcases h.2 with ⟨rfl, _⟩ | ⟨g, cap, cur, rfl, _⟩
      · exact ⟨none, 0, rfl⟩
      · exact ⟨_, _, rfl⟩
    have HS := Lib.hid (libSort0 o c)
    have HC := Lib.hid (libCompact0 o c)
    clear h
    go_enter Tryz.func134, Tryz.ntmps134
    go_wp2_with (first
      | (go_at_call 176; refine (HS.out _).mono ?_; rintro e w' ⟨rfl, rfl⟩)
      | (go_at_call 177; refine (HC.out _).mono ?_; rintro e w' ⟨rfl, rfl⟩))
    go_ret
    exact ⟨o, c, rfl, ⟨o, c, rfl, by simp [sortT]⟩, Below.refl _ _⟩
  obtain ⟨g, cap, cur, rfl, hgb, hgg, hn1, hn2, hn3, hn4⟩ : ∃ g cap cur, v = .slice (some ⟨g, 0, none⟩) ss.length cap ∧ base ≤ g ∧ w.heap[g]? = some (.cells cur 9 (0, 0)) ∧ ss.length ≤ cap ∧ cap ≤ maxLen ∧ cur.size = cap * 1 ∧ cur.toList.take (ss.length * 1) = ss.map encStr := by
    rcases h.2 with ⟨_, hz⟩ | ⟨g, cap, cur, hv, r⟩
    · exact absurd (List.eq_nil_of_length_eq_zero hz) h0
    · exact ⟨g, cap, cur, hv, r⟩
  rw [Nat.mul_one] at hn4
  have hgl : g < w.heap.size := (Array.getElem?_eq_some_iff.1 hgg).1
  obtain ⟨ts, hts⟩ : ∃ ts, ts = ss.mergeSort (fun x y => decide (x ≤ y)) := ⟨_, rfl⟩
  have htl : ts.length = ss.length := by rw [hts, List.length_mergeSort]
  have hcs : Lib.compact ts = sortT ss := by rw [hts]; exact compact_sort ss
  have hS := libSort g 0 cap ss w (holds_of_block hgg hn4) hgl (by omega)
  rw [← hts] at hS
  have HS := Lib.hid hS
  have HC : Hid (∀ (n : Nat) (os : Array Obj), Calls Tryz.prog 177 #[.slice (some ⟨g, 0, none⟩) ss.length cap] (grow (putRow encStr (Sort.ahead w n) g 0 ts.toArray) os) fun e w' =>
      e = .returned (.slice (some ⟨g, 0, none⟩) (sortT ss).length cap) ∧ ReadsO w' w'.heap.size (.slice (some ⟨g, 0, none⟩) (sortT ss).length cap) ((sortT ss).map txt) ∧ Below base w w') := by
    intro n os
    have hb1 := heap_sorted (n := n) (os := os) ts.toArray hgg
    have hg1 := grownBy_sorted (w := w) (g := g) (n := n) (os := os) ts.toArray
    have ht1 := take_putCells cur ts (by omega)
    have hH := holds_of_block hb1 ht1
    have hC := libCompact g 0 cap ts _ hH (by omega) (by omega)
    rw [htl, hcs] at hC
    refine hC.mono ?_
    rintro e w' ⟨rfl, q, rfl⟩
    have hcl := compact_len ts
    rw [hcs] at hcl
    have hsz : (sortT ss ++ List.replicate (ss.length - (sortT ss).length) []).toArray.size = ts.toArray.size := by simp; omega
    have hP := holds_putRow encStr (Sort.ahead (grow (putRow encStr (Sort.ahead w n) g 0 ts.toArray) os) q) g 0 ts.toArray _ hH hsz
    have hgr := putRow_grown (w := grow (putRow encStr (Sort.ahead w n) g 0 ts.toArray) os) (g := g) (n := q) (sortT ss ++ List.replicate (ss.length - (sortT ss).length) []).toArray
    have hB1 : Below base w (grow (putRow encStr (Sort.ahead w n) g 0 ts.toArray) os) := (Below.refl base w).grown hg1 hb (fun j hj => by cases hj; exact hgb)
    have hB2 := hB1.grown hgr (by have := hB1.size; omega) (fun j hj => by cases hj; exact hgb)
    refine ⟨rfl, ⟨some ⟨g, 0, none⟩, cap, by rw [List.length_map], fun k x hk => ?_⟩, hB2⟩
    rw [List.getElem?_map] at hk
    obtain ⟨y, hy, rfl⟩ := Option.map_eq_some_iff.1 hk
    have hkl : k < (sortT ss).length := (List.getElem?_eq_some_iff.1 hy).1
    refine ⟨g, 0, rfl, by have := hB2.size; have := hg1.size; have := hgr.size; omega, by rw [List.length_map]; omega, ?_⟩
    have h3 := (hP k (by simp; omega)).1
    rw [h3]
    have h4 : (sortT ss ++ List.replicate (ss.length - (sortT ss).length) []).toArray[k]! = y := by
      rw [getElem!_pos _ k (by simp; omega)]
      simp only [List.getElem_toArray]
      rw [List.getElem_append_left hkl]
      rw [List.getElem?_eq_getElem hkl] at hy
      exact Option.some.inj hy
    rw [h4]
    rfl
  clear hS hts htl hcs hgg hn1 hn2 hn3 hn4 h
  go_enter Tryz.func134, Tryz.ntmps134
  go_wp2_with (first
    | (go_at_call 176; refine HS.out.mono ?_; rintro e w' ⟨rfl, n, os, rfl⟩)
    | (go_at_call 177; refine (HC.out _ _).mono ?_; rintro e w' ⟨rfl, hr, hbl⟩))
  go_ret
  exact ⟨_, _, rfl, hr, hbl⟩
end Go.Proofs.YtbngoodjgijmgaaGreatDoor
