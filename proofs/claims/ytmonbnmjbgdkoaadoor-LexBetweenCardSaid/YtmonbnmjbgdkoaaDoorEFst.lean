/-
  What first answers: the first line that is told, or that says nothing, and of how many lines it was put together. No condition.
-/
import Derived.Test.YtmonbnmjbgdkoaaDoorETog
namespace Go.Proofs.YtmonbnmjbgdkoaaDoor
open Go.RowKit Go.Shelf
attribute [local go_sem] Oper.semAt_some

def FirstPost (a : BS) (r : List BS) (w : World) (e : Ending) (w' : World) : Prop :=
  e = .returned (.tuple #[.agg #[.int .i64 0, .bool (tabL a), .string (txt (textL (tabL a) (glue a r).1))], .int .i64 (((glue a r).2 + 1 : Nat))]) ∧ Below w.heap.size w w'
/-- Two lines of the call's own: the one that it answers with, and the one that it makes. -/
structure TwoL (w wr : World) (k : Nat) (tab : Bool) (x : ByteArray) : Prop where
  back : Below w.heap.size w wr
  lt : w.heap.size < k
  zero : wr.heap[w.heap.size]? = some (.cells #[.int .i64 0, .bool false, .string ⟨#[]⟩] 28 (0, 0))
  own : wr.heap[k]? = some (.cells #[.int .i64 0, .bool tab, .string x] 28 (0, 0))
section
variable {w wr w' : World} {k : Nat} {tab : Bool} {x : ByteArray}
theorem TwoL.below (h : TwoL w wr k tab x) (hb : Below wr.heap.size wr w') : TwoL w w' k tab x :=
  ⟨h.back.trans (hb.mono h.back.size), h.lt, (hb.block _ (Array.getElem?_eq_some_iff.1 h.zero).1).trans h.zero, (hb.block _ (Array.getElem?_eq_some_iff.1 h.own).1).trans h.own⟩
theorem TwoL.cells (h : TwoL w wr k tab x) : (wr.cell? ⟨k, 0, none⟩ = some (.int .i64 0) ∧ wr.cell? ⟨k, 1, none⟩ = some (.bool tab) ∧ wr.cell? ⟨k, 2, none⟩ = some (.string x)) ∧
    (wr.cell? ⟨w.heap.size, 0, none⟩ = some (.int .i64 0) ∧ wr.cell? ⟨w.heap.size, 1, none⟩ = some (.bool false) ∧ wr.cell? ⟨w.heap.size, 2, none⟩ = some (.string ⟨#[]⟩)) ∧
    (∀ j, wr.frozen? ⟨k, j, none⟩ = false) ∧ ∀ j, wr.frozen? ⟨w.heap.size, j, none⟩ = false := by
  refine ⟨⟨?_, ?_, ?_⟩, ⟨?_, ?_, ?_⟩, Lib.frozen_of_heap h.own, Lib.frozen_of_heap h.zero⟩ <;> (first | rw [Lib.cell_of_heap h.own] | rw [Lib.cell_of_heap h.zero]) <;> rfl
/-- Behind the answer's stores. -/
theorem TwoL.done (h : TwoL w wr k tab x) (y a b c : Value) :
    Below w.heap.size w ((((wr.setCell ⟨k, 2, none⟩ y).setCell ⟨w.heap.size, 0, none⟩ a).setCell ⟨w.heap.size, 1, none⟩ b).setCell ⟨w.heap.size, 2, none⟩ c) ∧
      ((((wr.setCell ⟨k, 2, none⟩ y).setCell ⟨w.heap.size, 0, none⟩ a).setCell ⟨w.heap.size, 1, none⟩ b).setCell ⟨w.heap.size, 2, none⟩ c).cell? ⟨w.heap.size, 0, none⟩ = some a ∧
      ((((wr.setCell ⟨k, 2, none⟩ y).setCell ⟨w.heap.size, 0, none⟩ a).setCell ⟨w.heap.size, 1, none⟩ b).setCell ⟨w.heap.size, 2, none⟩ c).cell? ⟨w.heap.size, 1, none⟩ = some b ∧
      ((((wr.setCell ⟨k, 2, none⟩ y).setCell ⟨w.heap.size, 0, none⟩ a).setCell ⟨w.heap.size, 1, none⟩ b).setCell ⟨w.heap.size, 2, none⟩ c).cell? ⟨w.heap.size, 2, none⟩ = some c := by
  have hne : k ≠ w.heap.size := by have := h.lt; omega
  have hz := h.zero
  have hh : ((((wr.setCell ⟨k, 2, none⟩ y).setCell ⟨w.heap.size, 0, none⟩ a).setCell ⟨w.heap.size, 1, none⟩ b).setCell ⟨w.heap.size, 2, none⟩ c).heap[w.heap.size]? = some (.cells #[a, b, c] 28 (0, 0)) := by
    generalize w.heap.size = z at hz hne ⊢
    simp [World.setCell, Array.getElem?_modify, hz, hne]
  have hT : Turned (fun n => w.heap.size ≤ n) wr ((((wr.setCell ⟨k, 2, none⟩ y).setCell ⟨w.heap.size, 0, none⟩ a).setCell ⟨w.heap.size, 1, none⟩ b).setCell ⟨w.heap.size, 2, none⟩ c) :=
    (((Turned.setCell (X := fun n => w.heap.size ≤ n) wr ⟨k, 2, none⟩ y (Nat.le_of_lt h.lt)).trans (Turned.setCell (X := fun n => w.heap.size ≤ n) _ ⟨w.heap.size, 0, none⟩ a (Nat.le_refl _))).trans
      (Turned.setCell (X := fun n => w.heap.size ≤ n) _ ⟨w.heap.size, 1, none⟩ b (Nat.le_refl _))).trans (Turned.setCell (X := fun n => w.heap.size ≤ n) _ ⟨w.heap.size, 2, none⟩ c (Nat.le_refl _))
  exact ⟨h.back.trans (hT.below h.back.size fun n hn => hn), by rw [Lib.cell_of_heap hh]; rfl, by rw [Lib.cell_of_heap hh]; rfl, by rw [Lib.cell_of_heap hh]; rfl⟩
end

set_option maxRecDepth 100000 in
set_option maxHeartbeats 2000000 in
theorem first_any (b o c n : Nat) (a : BS) (r : List BS) (hn : n = r.length + 1) (w : World) (h : LinesAt w b o c (a :: r)) (hr : r.length ≤ 1000000) (hl : ∀ l ∈ a :: r, l.length ≤ 1000000) :
    Calls Tryd.prog 12 #[.slice (some ⟨b, o, none⟩) n c] w (FirstPost a r w) := by
  have hn0 : 0 < n := by omega
  have hcap : n ≤ c := by have := h.cap; simp at this; omega
  have hn31 : n ≤ 1000001 := by omega
  have HT : Hid (∀ W, Below w.heap.size w W → Calls Tryd.prog 16 #[.slice (some ⟨b, o, none⟩) n c] W (TogPost a r W)) := fun W hb => together_any b o c n a r hn W (h.below hb) hr hl
  have HX : Hid (∀ W, Below w.heap.size w W → W.cell? ⟨b, o, none⟩ = some (.string (txt a))) := fun W hb => by
    have := (h.below hb).cell 0 a rfl
    rwa [Nat.add_zero] at this
  have hG : (trimOf (glue a r).1).length ≤ 140737488355328 := by
    have h1 := trim_len (glue a r).1
    have h2 := glue_len 1000000 r a (fun l hm => hl l (List.mem_cons_of_mem _ hm))
    have h3 := hl a (by simp)
    have h4 : r.length * (1000000 + 1) ≤ 1000000 * (1000000 + 1) := Nat.mul_le_mul_right _ hr
    omega
  have HE : Hid (textL (tabL a) (glue a r).1 = textL (tabL a) (trimOf (glue a r).1)) := (text_trim _ _).symm
  clear h hr hl hn
  go_enter Tryd.func12, Tryd.ntmps12
  go_wp2_with fail
  refine (HT.out _ ((Below.refl _ w).alloc (Nat.le_refl _) _)).mono ?_
  rintro e w1 ⟨rfl, hb1⟩
  generalize hg : trimOf (glue a r).1 = gx at HE hG
  clear hg
  have c0 := HX.out w1 (((Below.refl _ w).alloc (Nat.le_refl _) _).trans (hb1.mono (by simp)))
  have HP := Lib.hid (hasPrefix_tab (txt a))
  rw [txt_data] at HP
  go_wp2_with fail
  refine (HP.out w1).mono ?_
  rintro e w2 ⟨rfl, rfl⟩
  have HZ : Hid (w2.heap[w.heap.size]? = some (.cells #[.int .i64 0, .bool false, .string ⟨#[]⟩] 28 (0, 0))) := (hb1.block _ (by simp)).trans (World.alloc_heap_new w _)
  have HB : Hid (Below w.heap.size w w2) := ((Below.refl _ w).alloc (Nat.le_refl _) _).trans (hb1.mono (by simp))
  have h02 : w.heap.size < w2.heap.size := by have := hb1.size; rw [World.size_alloc] at this; omega
  have HW : Hid (∀ tab, TwoL w (w2.alloc (.cells #[.int .i64 0, .bool tab, .string ⟨#[]⟩] 28)) w2.heap.size tab ⟨#[]⟩) := fun tab =>
    ⟨HB.out.alloc HB.out.size _, h02, (Below.heap_alloc _ _ _ h02).trans HZ.out, World.alloc_heap_new w2 _⟩
  clear HX HT hb1 HZ HB
  have hgl := glue_le r a
  obtain ⟨m, hm⟩ : ∃ m, m = (glue a r).2 := ⟨_, rfl⟩
  rw [← hm] at hgl ⊢
  have HR : Hid (∀ z : ByteArray, z.data.toList = (if tabL a then gx else bareL gx) → ∀ W, Calls Tryd.prog 19 #[.string z] W fun e w' => e = .returned (.string (txt (textL (tabL a) gx))) ∧ Below W.heap.size W w') := fun z hz W => by
    have hl : z.data.toList.length ≤ 140737488355328 := by
      rw [hz]
      split
      · exact hG
      · exact Nat.le_trans (List.takeWhile_sublist _).length_le hG
    rw [size_list] at hl
    have := trim_any z (by unfold maxLen; omega) W
    rw [hz] at this
    exact this
  have HC := Lib.hid (fun W => cut_any (txt gx) (by rw [txt_size]; unfold maxLen; omega) W)
  rw [txt_data] at HC
  have HPost : Hid (∀ W, Below w.heap.size w W → FirstPost a r w (.returned (.tuple #[.agg #[.int .i64 0, .bool (tabL a), .string (txt (textL (tabL a) gx))], .int .i64 ((m : Int) + 1)])) W) := fun W hb => by
    refine ⟨?_, hb⟩
    rw [HE.out, hm]
    rfl
  clear hm
  generalize textL (tabL a) gx = X at HR HPost
  cases ht : tabL a with
  | true =>
    rw [ht] at HR HPost
    have HTr : Hid (∀ W, Calls Tryd.prog 19 #[.string (txt gx)] W fun e w' => e = .returned (.string (txt X)) ∧ Below W.heap.size W w') := HR.out (txt gx) (by rw [txt_data]; rfl)
    have HW2 := Lib.hid (HW.out true)
    clear HR HC HW HE
    go_wp2_with fail
    refine (HTr.out _).mono ?_
    rintro e w3 ⟨rfl, hb3⟩
    have hL := HW2.out.below hb3
    obtain ⟨⟨c0', c1', c2'⟩, ⟨z0, z1, z2⟩, fk, fz⟩ := hL.cells
    have HD := Lib.hid (hL.done (.string (txt X)) (.int .i64 0) (.bool true) (.string (txt X)))
    clear hL hb3
    go_wp2_with fail
    obtain ⟨hbk, q0, q1, q2⟩ := HD.out
    exact bodyPost_ret (v := .tuple #[.agg #[.int .i64 0, .bool true, .string (txt X)], .int .i64 ((m : Int) + 1)]) (by simp [results, Tryd.results12, go_sem, q0, q1, q2]) rfl (HPost.out _ hbk)
  | false =>
    rw [ht] at HR HPost
    have HTr : Hid (∀ W, Calls Tryd.prog 19 #[.string (txt (bareL gx))] W fun e w' => e = .returned (.string (txt X)) ∧ Below W.heap.size W w') := HR.out (txt (bareL gx)) (by rw [txt_data]; rfl)
    have HW2 := Lib.hid (HW.out false)
    clear HR HW HE
    go_wp2_with fail
    refine (HC.out _).mono ?_
    rintro e w4 ⟨⟨cr, cb, rfl⟩, hb4⟩
    have hL4 := HW2.out.below hb4
    obtain ⟨⟨c0', c1', c2'⟩, ⟨z0, z1, z2⟩, fk, fz⟩ := id hL4.cells
    have HL4 := Lib.hid hL4
    clear hL4 hb4
    go_wp2_with fail
    refine (HTr.out _).mono ?_
    rintro e w3 ⟨rfl, hb3⟩
    have hL := HL4.out.below hb3
    clear c0' c1' c2' z0 z1 z2 fk fz
    obtain ⟨⟨c0', c1', c2'⟩, ⟨z0, z1, z2⟩, fk, fz⟩ := hL.cells
    have HD := Lib.hid (hL.done (.string (txt X)) (.int .i64 0) (.bool false) (.string (txt X)))
    clear hL hb3
    go_wp2_with fail
    obtain ⟨hbk, q0, q1, q2⟩ := HD.out
    exact bodyPost_ret (v := .tuple #[.agg #[.int .i64 0, .bool false, .string (txt X)], .int .i64 ((m : Int) + 1)]) (by simp [results, Tryd.results12, go_sem, q0, q1, q2]) rfl (HPost.out _ hbk)
end Go.Proofs.YtmonbnmjbgdkoaaDoor
