/-
  The chapter's examples come out as the statements' function shown asks: it answers true, and turns nothing that lay.
-/
import Derived.Test.YtebamellddoaeaaDoorQuote
import Derived.Test.YtebamellddoaeaaDoorSame
namespace Go.Proofs.YtebamellddoaeaaDoor
open Go.RowKit Go.Shelf

theorem built_reads (W : World) (xs : List ByteArray) : Reads (W.alloc (.cells (xs.map Value.string).toArray 9)) (W.heap.size + 1) (.slice (some ⟨W.heap.size, 0, none⟩) xs.length xs.length) xs := by
  refine .inr ⟨W.heap.size, 0, xs.length, rfl, by omega, Nat.le_refl _, fun j x hj => ?_⟩
  have e : (W.alloc (.cells (xs.map Value.string).toArray 9)).heap[W.heap.size]? = some (.cells (xs.map Value.string).toArray 9) := World.alloc_heap_new W _
  unfold World.cell?
  simp only [e]
  simp [hj]

theorem same_t (va vb : Value) (xs ys : List ByteArray) (B : Nat) (w : World) (ha : Reads w B va xs) (hb : Reads w B vb ys) (hn : xs.length ≤ maxLen) (h : xs = ys) :
    Calls Tryd.prog 7 #[va, vb] w fun e w' => e = .returned (.bool true) ∧ ∃ n, w' = w.drewN n := by
  have := same_any va vb xs ys B w ha hb hn
  rwa [decide_eq_true h] at this

theorem below_drewN {B : Nat} {a w : World} (h : Below B a w) (m : Nat) : Below B a (w.drewN m) := ⟨h.os, h.tape, h.output, h.size, h.block⟩
theorem same_tb (va vb : Value) (xs ys : List ByteArray) (B : Nat) (w : World) (ha : Reads w B va xs) (hb : Reads w B vb ys) (hn : xs.length ≤ maxLen) (h : xs = ys) :
    Calls Tryd.prog 7 #[va, vb] w fun e w' => e = .returned (.bool true) ∧ Below w.heap.size w w' :=
  (same_t va vb xs ys B w ha hb hn h).mono fun e w' h => by obtain ⟨h1, m, rfl⟩ := h; exact ⟨h1, below_drewN (Below.refl _ _) m⟩

theorem path_t (s : ByteArray) (hs : s.size ≤ maxLen) (h : pathB s.data.toList = true) (w : World) : Calls Tryd.prog 16 #[.string s] w fun e w' => e = .returned (.bool true) ∧ Below w.heap.size w w' := by
  have := path_any s hs w; rwa [h] at this
theorem path_f (s : ByteArray) (hs : s.size ≤ maxLen) (h : pathB s.data.toList = false) (w : World) : Calls Tryd.prog 16 #[.string s] w fun e w' => e = .returned (.bool false) ∧ Below w.heap.size w w' := by
  have := path_any s hs w; rwa [h] at this

theorem wordsOf_eq (l : List UInt8) : wordsOf l = ((pieces blankB l).filter (fun p => !p.isEmpty)).map txt := by
  unfold wordsOf
  rw [List.filter_map]
  congr 2
  funext p
  simp [isWord, txt_toL]
def partL (p : List UInt8) : Bool := !(p == [] || p == [46] || p == [46, 46])
theorem pathB_eq (l : List UInt8) : pathB l = (decide (l.length ≤ 100) && allB plainB l && (pieces slashB l).all partL && decide ((pieces slashB l).length ≤ 8)) := by
  unfold pathB
  rw [List.all_map]
  congr 3
  funext p
  simp [partB, partL, txt_toL]
theorem ex1 : wordsOf [32, 97, 9, 98, 99] = [⟨#[97]⟩, ⟨#[98, 99]⟩] := by rw [wordsOf_eq]; rfl
theorem ex2 : linesOf [97, 10, 10, 98] = [⟨#[97]⟩, ⟨#[]⟩, ⟨#[98]⟩] := by rfl
theorem ex3 : pathB [97, 47, 98, 46, 99] = true := by rw [pathB_eq]; decide
theorem ex4 : pathB [97, 47, 47, 98] = false := by rw [pathB_eq]; decide
theorem ex5 : pathB [46, 46, 47, 120] = false := by rw [pathB_eq]; decide
theorem ex6 : quoteOf [97, 32, 98] = [97, 37, 50, 48, 98] := by decide
theorem ex7 : quoteOf [] = [37] := by decide

set_option maxRecDepth 100000 in
set_option maxHeartbeats 2000000 in
theorem shown_any (w : World) : Calls Tryd.prog 5 #[] w fun e w' => e = .returned (.bool true) ∧ Below w.heap.size w w' := by
  go_enter Tryd.func5, Tryd.ntmps5
  go_wp2_with fail
  refine (words_any ⟨#[32, 97, 9, 98, 99]⟩ (by decide) w).mono ?_
  rintro e w1 ⟨v1, rfl, hr1, hb1⟩
  go_wp2_with fail
  refine (same_tb v1 _ _ [⟨#[97]⟩, ⟨#[98, 99]⟩] (w1.heap.size + 1) _ (hr1.below ((Below.refl _ w1).alloc (Nat.le_refl _) _) (by omega)) (built_reads w1 [⟨#[97]⟩, ⟨#[98, 99]⟩]) (by rw [ex1]; decide) ex1).mono ?_
  rintro e w2 ⟨rfl, hb2'⟩
  have hb2 := (hb1.alloc hb1.size _).trans (hb2'.mono (by have := hb1.size; simp; omega))
  clear hb2'
  have hs2 := hb2.size
  clear hr1 hb1
  go_wp2_with fail
  refine (lines_any ⟨#[97, 10, 10, 98]⟩ (by decide) w2).mono ?_
  rintro e w3 ⟨v3, rfl, hr3, hb3⟩
  have hb3' := hb2.trans (hb3.mono hs2)
  have hs3 := hb3'.size
  go_wp2_with fail
  refine (same_tb v3 _ _ [⟨#[97]⟩, ⟨#[]⟩, ⟨#[98]⟩] (w3.heap.size + 1) _ (hr3.below ((Below.refl _ w3).alloc (Nat.le_refl _) _) (by omega)) (built_reads w3 [⟨#[97]⟩, ⟨#[]⟩, ⟨#[98]⟩]) (by rw [ex2]; decide) ex2).mono ?_
  rintro e w4 ⟨rfl, hb4'⟩
  have hb4 := (hb3'.alloc hs3 _).trans (hb4'.mono (by simp; omega))
  clear hb4'
  have hs4 := hb4.size
  clear hr3 hb3 hb3' hs3 hb2 hs2
  go_wp2_with fail
  refine (path_t ⟨#[97, 47, 98, 46, 99]⟩ (by decide) ex3 w4).mono ?_
  rintro e w5 ⟨rfl, hb5⟩
  have hb5' := hb4.trans (hb5.mono hs4)
  have hs5 := hb5'.size
  go_wp2_with fail
  refine (path_f ⟨#[97, 47, 47, 98]⟩ (by decide) ex4 w5).mono ?_
  rintro e w6 ⟨rfl, hb6⟩
  have hb6' := hb5'.trans (hb6.mono hs5)
  have hs6 := hb6'.size
  go_wp2_with fail
  refine (path_f ⟨#[46, 46, 47, 120]⟩ (by decide) ex5 w6).mono ?_
  rintro e w7 ⟨rfl, hb7⟩
  have hb7' := hb6'.trans (hb7.mono hs6)
  have hs7 := hb7'.size
  go_wp2_with fail
  have hq8 := quote_any ⟨#[97, 32, 98]⟩ (by decide) w7
  rw [show quoteOf (ByteArray.mk #[97, 32, 98]).data.toList = [97, 37, 50, 48, 98] from ex6] at hq8
  refine hq8.mono ?_
  rintro e w8 ⟨rfl, hb8⟩
  have hb8' := hb7'.trans (hb8.mono hs7)
  have hs8 := hb8'.size
  have hq8e : ((txt [97, 37, 50, 48, 98]).toList == [97, 37, 50, 48, 98]) = true := by rw [txt_toL]; rfl
  go_wp2_with fail
  have hq9 := quote_any ⟨#[]⟩ (by decide) w8
  rw [show quoteOf (ByteArray.mk #[]).data.toList = [37] from ex7] at hq9
  refine hq9.mono ?_
  rintro e w9 ⟨rfl, hb9⟩
  have hb9' := hb8'.trans (hb9.mono hs8)
  go_wp2_with fail
  go_ret
  exact ⟨ret_bool (by rw [txt_toL]; rfl), hb9'⟩

end Go.Proofs.YtebamellddoaeaaDoor
