/-
  The statements' own begun, small, same; an act, done to the program's tree alone.
-/
import Derived.Deep.QuietTactic
import Derived.BigQuiet
import Derived.Test.YtginlknlkbhgaaaFLaw2
namespace Go.Proofs.Ytginlknlkbhgaaa
open Go.RowKit Go.Shelf Go.Maps

/-! ### begun -/
/-- Two new trees, apart, in blocks of the call's own. -/
def Begun (w : World) (bt bm : Nat) (room : Int) (w' : World) : Prop :=
  ∃ X Y, TreeS w' X bt room (0, [], [], []) ∧ RefS w' Y bm room (0, [], [], []) ∧ Disj X Y ∧ (∀ n, X n → w.heap.size ≤ n) ∧ (∀ n, Y n → w.heap.size ≤ n) ∧ Below w.heap.size w w'

set_option maxRecDepth 100000 in
set_option maxHeartbeats 2000000 in
theorem begun_ok (room : Int) (h0 : 1 ≤ room) (h1 : room ≤ 1073741824) (w : World) :
    Calls Try.prog 13 #[.int .i64 room] w fun e w' => ∃ bt bm, e = .returned (.tuple #[.agg #[.pointer (some ⟨bt, 0, none⟩), .pointer (some ⟨bm, 0, none⟩)], .bool true]) ∧ Begun w bt bm room w' := by
  obtain ⟨W, hW⟩ : ∃ W, W = w.alloc (.cells #[.pointer none, .pointer none] 28) := ⟨_, rfl⟩
  have hb0 : Below w.heap.size w W := by rw [hW]; exact (Below.refl _ w).alloc (Nat.le_refl _) _
  have hsW : W.heap.size = w.heap.size + 1 := by rw [hW]; simp
  have hx0 : W.heap[w.heap.size]? = some (.cells #[.pointer none, .pointer none] 28 (0, 0)) := by rw [hW]; exact World.alloc_heap_new w _
  have HN : Hid (Calls Try.prog 32 #[.int .i64 room] W fun r w1 => r = .returned (.tuple #[.pointer (some ⟨W.heap.size, 0, none⟩), .int .i64 0]) ∧ Below W.heap.size W w1 ∧ TreeS w1 (fun n => n = W.heap.size) W.heap.size room (0, [], [], [])) :=
    (new_ok room h0 h1 W).mono fun r w1 h => ⟨h.1, h.2.2, h.2.1⟩
  have HM : Hid (∀ w1, Below W.heap.size W w1 → TreeS w1 (fun n => n = W.heap.size) W.heap.size room (0, [], [], []) → Calls Try.prog 33 #[.int .i64 room] w1 fun r w2 => r = .returned (.tuple #[.pointer (some ⟨w1.heap.size, 0, none⟩), .int .i64 0]) ∧ w2.heap[w.heap.size]? = some (.cells #[.pointer none, .pointer none] 28 (0, 0)) ∧
      Begun w W.heap.size w1.heap.size room ((w2.setCell ⟨w.heap.size, 0, none⟩ (.pointer (some ⟨W.heap.size, 0, none⟩))).setCell ⟨w.heap.size, 1, none⟩ (.pointer (some ⟨w1.heap.size, 0, none⟩)))) := by
    intro w1 hb ht
    refine (rnew_ok room h0 h1 w1).mono ?_
    rintro r w2 ⟨rfl, hr, hb2⟩
    have hs1 := hb.size
    have hs2 := hb2.size
    have hlt := TreeR.lt ht _ rfl
    have hT : Turned (fun n => n = w.heap.size) w2 ((w2.setCell ⟨w.heap.size, 0, none⟩ (.pointer (some ⟨W.heap.size, 0, none⟩))).setCell ⟨w.heap.size, 1, none⟩ (.pointer (some ⟨w1.heap.size, 0, none⟩))) := (Turned.setCell (X := fun n => n = w.heap.size) w2 ⟨w.heap.size, 0, none⟩ _ rfl).trans (Turned.setCell (X := fun n => n = w.heap.size) _ ⟨w.heap.size, 1, none⟩ _ rfl)
    refine ⟨rfl, (hb2.block _ (by omega)).trans ((hb.block _ (by omega)).trans hx0), fun n => n = W.heap.size, fun n => n = w1.heap.size, TreeR.kept (TreeR.below ht hb2) hT (fun n (hn : n = W.heap.size) hx => by omega), hr.kept hT (fun n (hn : n = w1.heap.size) hx => by omega), fun n (hn : n = W.heap.size) (hx : n = w1.heap.size) => by omega, fun n (hn : n = W.heap.size) => by omega, fun n (hn : n = w1.heap.size) => by omega, ?_⟩
    exact ((hb0.trans (hb.mono (by omega))).trans (hb2.mono (by omega))).trans (hT.below (by omega) (fun n hn => by omega))
  rw [hsW] at HN HM
  clear hx0 hb0 h0 h1 hsW
  have HWs := Lib.hid hW
  clear hW
  go_enter Try.func13, Try.ntmps13
  go_wp2_with (first
    | (go_at_call 32; rw [← HWs.out]; refine (HN.out).mono ?_; rintro r w1 ⟨rfl, hb1, ht1⟩)
    | (go_at_call 33; refine (HM.out _ hb1 ht1).mono ?_; rintro r w2 ⟨rfl, hx2, hB⟩; have z0 : w2.cell? ⟨w.heap.size, 0, none⟩ = some (.pointer none) := (by rw [Lib.cell_of_heap hx2]; rfl); have z1 : w2.cell? ⟨w.heap.size, 1, none⟩ = some (.pointer none) := (by rw [Lib.cell_of_heap hx2]; rfl); have y0 := Lib.frozen_of_heap hx2 0; have y1 := Lib.frozen_of_heap hx2 1; have HBq := Lib.hid hB; clear hB))
  have hh : ((w2.setCell ⟨w.heap.size, 0, none⟩ (.pointer (some ⟨w.heap.size + 1, 0, none⟩))).setCell ⟨w.heap.size, 1, none⟩ (.pointer (some ⟨w1.heap.size, 0, none⟩))).heap[w.heap.size]? = some (.cells #[.pointer (some ⟨w.heap.size + 1, 0, none⟩), .pointer (some ⟨w1.heap.size, 0, none⟩)] 28 (0, 0)) := by simp [World.setCell, Array.getElem?_modify, hx2]
  have hB := HBq.out
  generalize ((w2.setCell ⟨w.heap.size, 0, none⟩ (.pointer (some ⟨w.heap.size + 1, 0, none⟩))).setCell ⟨w.heap.size, 1, none⟩ (.pointer (some ⟨w1.heap.size, 0, none⟩))) = W2 at hh hB ⊢
  have q0 : W2.cell? ⟨w.heap.size, 0, none⟩ = some (.pointer (some ⟨w.heap.size + 1, 0, none⟩)) := by rw [Lib.cell_of_heap hh]; rfl
  have q1 : W2.cell? ⟨w.heap.size, 1, none⟩ = some (.pointer (some ⟨w1.heap.size, 0, none⟩)) := by rw [Lib.cell_of_heap hh]; rfl
  exact bodyPost_ret (v := .tuple #[.agg #[.pointer (some ⟨w.heap.size + 1, 0, none⟩), .pointer (some ⟨w1.heap.size, 0, none⟩)], .bool true]) (by simp [results, Try.results13, go_sem, q0, q1]) rfl ⟨_, _, rfl, hB⟩

set_option maxRecDepth 100000 in
set_option maxHeartbeats 2000000 in
theorem begun_err (room : Int) (h0 : room < 1 ∨ 1073741824 < room) (w : World) :
    Calls Try.prog 13 #[.int .i64 room] w fun e w' => e = .returned (.tuple #[.agg #[.pointer none, .pointer none], .bool false]) ∧ Below w.heap.size w w' := by
  have HN := Lib.hid (new_err room h0)
  have HM := Lib.hid (rnew_err room h0)
  clear h0
  have hx0 : (w.alloc (.cells #[.pointer none, .pointer none] 28)).heap[w.heap.size]? = some (.cells #[.pointer none, .pointer none] 28 (0, 0)) := World.alloc_heap_new w _
  have hb0 : Below w.heap.size w (w.alloc (.cells #[.pointer none, .pointer none] 28)) := (Below.refl _ w).alloc (Nat.le_refl _) _
  go_enter Try.func13, Try.ntmps13
  go_wp2_with (first
    | (go_at_call 32; refine (HN.out _).mono ?_; rintro r w1 ⟨rfl, rfl⟩)
    | (go_at_call 33; refine (HM.out _).mono ?_; rintro r w2 ⟨rfl, rfl⟩))
  generalize w.alloc (.cells #[.pointer none, .pointer none] 28) = W2 at hx0 hb0 ⊢
  have q0 : W2.cell? ⟨w.heap.size, 0, none⟩ = some (.pointer none) := by rw [Lib.cell_of_heap hx0]; rfl
  have q1 : W2.cell? ⟨w.heap.size, 1, none⟩ = some (.pointer none) := by rw [Lib.cell_of_heap hx0]; rfl
  exact bodyPost_ret (v := .tuple #[.agg #[.pointer none, .pointer none], .bool false]) (by simp [results, Try.results13, go_sem, q0, q1]) rfl ⟨rfl, hb0⟩

/-! ### small -/
def fitB (a : ActV) : Bool := decide (a.path.size ≤ 150) && decide (a.text.size ≤ 300)
def smallB (al : List ActV) : Bool := decide (al.length ≤ 60) && al.all fitB
theorem small_ok {al : List ActV} (h : smallB al = true) (hw : ∀ a ∈ al, ActW a) : al.length ≤ 60 ∧ ∀ a ∈ al, ActOk a := by
  simp only [smallB, Bool.and_eq_true, decide_eq_true_eq, List.all_eq_true, fitB] at h
  exact ⟨h.1, fun a ha => ⟨hw a ha, (h.2 a ha).1, (h.2 a ha).2⟩⟩
theorem small_no {al : List ActV} {a : ActV} (h : a ∈ al) (ht : fitB a = false) : smallB al = false := by
  unfold smallB
  rw [show al.all fitB = false from by rw [List.all_eq_false]; exact ⟨a, h, by simp [ht]⟩, Bool.and_false]

set_option maxRecDepth 100000 in
set_option maxHeartbeats 2000000 in
theorem small_any (v : Value) (al : List ActV) (B : Nat) (w : World) (hr : ActsO w B v al) (hn : al.length ≤ maxLen) (hw : ∀ a ∈ al, ActW a) : Calls Try.prog 12 #[v] w fun e w' => e = .returned (.bool (smallB al)) ∧ w = w' := by
  unfold maxLen at hn
  obtain ⟨o, c, rfl, hx⟩ := hr
  have HX := Lib.hid hx
  have HZ := Lib.hid hw
  clear hx hw
  by_cases h60 : 60 < al.length
  · have e1 : decide (60 < (al.length : Int)) = true := by simp; omega
    have HN : Hid (smallB al = false) := by show _ = _; simp [smallB]; omega
    clear HZ
    go_enter Try.func12, Try.ntmps12
    go_wp2
    go_ret
    exact ⟨by rw [HN.out]; rfl, rfl⟩
  have e1 : decide (60 < (al.length : Int)) = false := by simp; omega
  go_enter Try.func12, Try.ntmps12
  go_wp2
  go_loop [3] (fun i => ∃ k : Nat, k ≤ al.length ∧ i = .int .i64 k ∧ Hid (∀ a ∈ al.take k, fitB a = true)) (fun i => al.length - (intOf i).toNat)
  case atStart => exact ⟨0, Nat.zero_le _, rfl, by intro a ha; simp at ha⟩
  case round =>
    obtain ⟨k, hk, rfl, HM⟩ := hrel
    by_cases hlt : k < al.length
    · obtain ⟨b, f, rfl, _, hkc, hcell⟩ := HX.out k al[k] (List.getElem?_eq_getElem hlt)
      have hkc' : k < c := by omega
      have hxz := HZ.out al[k] (List.getElem_mem hlt)
      have hmem : al[k] ∈ al := List.getElem_mem hlt
      have e3 := hcell 3 (by omega)
      have e4 := hcell 4 (by omega)
      have HS : Hid (fitB al[k] = true → ∀ a ∈ al.take (k + 1), fitB a = true) := by
        intro h a ha
        rw [List.take_succ_eq_append_getElem hlt] at ha
        rcases List.mem_append.1 ha with ha | ha
        · exact HM.out a ha
        · simp at ha; rw [ha]; exact h
      have HN : Hid (fitB al[k] = false → smallB al = false) := fun h => small_no hmem h
      have p1 := hxz.path
      have p2 := hxz.text
      unfold maxLen at p1 p2
      clear hcell hxz hmem HM
      generalize al[k] = a at *
      obtain ⟨op, an, am, ap, at'⟩ := a
      simp only [actCells, List.getElem?_cons_succ, List.getElem?_cons_zero] at e3 e4 p1 p2
      have hi5 : (k : Int) < (al.length : Int) := by omega
      have hi6 : (0 : Int) ≤ (k : Int) := by omega
      by_cases hp : 150 < ap.size
      · have d1 : decide (150 < (ap.size : Int)) = true := by simp; omega
        have HN2 : Hid (smallB al = false) := HN.out (by simp [fitB]; omega)
        go_wp2
        go_ret
        exact ⟨by rw [HN2.out]; rfl, rfl⟩
      · have d1 : decide (150 < (ap.size : Int)) = false := by simp; omega
        by_cases ht : 300 < at'.size
        · have d2 : decide (300 < (at'.size : Int)) = true := by simp; omega
          have HN2 : Hid (smallB al = false) := HN.out (by simp [fitB]; omega)
          go_wp2
          go_ret
          exact ⟨by rw [HN2.out]; rfl, rfl⟩
        · have d2 : decide (300 < (at'.size : Int)) = false := by simp; omega
          have HS2 : Hid (∀ a ∈ al.take (k + 1), fitB a = true) := HS.out (by simp [fitB]; omega)
          go_wp2
          go_round
          case rel => exact ⟨k + 1, hlt, by go_num, HS2⟩
          case measure => simp [intOf]; omega
    · have HN : Hid (smallB al = true) := by
        have := HM.out
        rw [List.take_of_length_le (by omega)] at this
        show _ = _
        simp only [smallB, Bool.and_eq_true, decide_eq_true_eq, List.all_eq_true]
        exact ⟨by omega, this⟩
      go_wp2
      go_ret
      exact ⟨by rw [HN.out]; rfl, rfl⟩

end Go.Proofs.Ytginlknlkbhgaaa
