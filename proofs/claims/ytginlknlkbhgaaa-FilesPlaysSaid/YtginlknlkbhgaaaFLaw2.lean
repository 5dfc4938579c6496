/-
  An act, done to both trees: the same error, and the same files behind it.
-/
import Derived.Deep.RegionHeld3
import Derived.Test.YtginlknlkbhgaaaFLaw1
import Derived.Test.YtginlknlkbhgaaaFRef9
namespace Go.Proofs.Ytginlknlkbhgaaa
open Go.RowKit Go.Shelf Go.Maps

set_option maxRecDepth 100000 in
set_option maxHeartbeats 4000000 in
theorem does_0 (X Y : Nat → Prop) (bt bm : Nat) (room : Int) (n : Nat) (S : St) (a : ActV) (w : World) (ht : TreeS w X bt room S) (hr : RefS w Y bm room S) (hd : Disj X Y) (hg : Good room n S) (hn : n < 268435456) (ha : ActOk a) (hk : a.k = 0) :
    Calls Try.prog 17 #[.agg #[.pointer (some ⟨bt, 0, none⟩), .pointer (some ⟨bm, 0, none⟩)], .agg #[.int .i64 a.op, .int .i64 a.n, .int .i64 a.m, .string a.path, .string a.text]] w fun e w' => e = .returned (.bool true) ∧ TwoS w X Y bt bm room (actS room S a) (actS room S a) w' := by
  have hX := TreeR.lt ht
  have hY := hr.lt
  have hS : actS room S a = (opW room S a.path.data.toList a.text.data.toList).2 := by unfold actS; rw [hk]; rfl
  rw [hS]
  obtain ⟨c, hc⟩ : ∃ c, c = (opW room S a.path.data.toList a.text.data.toList).1 := ⟨_, rfl⟩
  obtain ⟨S1, hS1⟩ : ∃ S1, S1 = (opW room S a.path.data.toList a.text.data.toList).2 := ⟨_, rfl⟩
  have hb := boxed_below w bt bm a
  have h0 : TwoS (boxed w bt bm a) X Y bt bm room S S (boxed w bt bm a) := TwoS.start (TreeR.below ht hb) (hr.below hb) hd
  have HB : Hid (∀ U T W, TwoS (boxed w bt bm a) X Y bt bm room U T W → W.cell? ⟨w.heap.size, 0, none⟩ = some (.pointer (some ⟨bt, 0, none⟩)) ∧ W.cell? ⟨w.heap.size, 1, none⟩ = some (.pointer (some ⟨bm, 0, none⟩)) ∧ W.cell? ⟨w.heap.size + 1, 3, none⟩ = some (.string a.path) ∧ W.cell? ⟨w.heap.size + 1, 4, none⟩ = some (.string a.text)) := fun U T W h => by
    obtain ⟨p0, p1, p2, p3, p4, p5, p6⟩ := h.box hX hY
    exact ⟨p0, p1, p5, p6⟩
  have HT : Hid (∀ T W, TwoS (boxed w bt bm a) X Y bt bm room S T W → Calls Try.prog 15 #[.pointer (some ⟨bt, 0, none⟩), .string a.path, .string a.text] W fun r W' => r = .returned (.int .i64 c) ∧ TwoS (boxed w bt bm a) X Y bt bm room S1 T W') := by
    intro T W h
    rw [hc, hS1]
    exact h.doT fun X' h' => write_tree bt X' a.path a.text room S W h' (hg.ok (by omega)) (by have := ha.path1; omega) (by have := ha.text1; omega)
  have HR : Hid (∀ T W, TwoS (boxed w bt bm a) X Y bt bm room T S W → Calls Try.prog 41 #[.pointer (some ⟨bm, 0, none⟩), .string a.path, .string a.text] W fun r W' => r = .returned (.int .i64 c) ∧ TwoS (boxed w bt bm a) X Y bt bm room T S1 W') := by
    intro T W h
    rw [hc, hS1]
    exact h.doR fun Y' h' => rWrite_good bm Y' a.path a.text room n S W h' hg (by omega) (by have := ha.path1; omega) (by have := ha.text1; omega)
  have HP : Hid (∀ W, Calls Try.prog 25 #[.int .i64 a.op, .int .i64 8] W fun e w' => e = .returned (.int .i64 0) ∧ W = w') := by
    intro W
    have := pick_any a.op ha.op 8 (by omega) (by omega) W
    rw [show pickZ a.op 8 = 0 from hk] at this
    exact this
  have HF : Hid (∀ W, TwoS (boxed w bt bm a) X Y bt bm room S1 S1 W → TwoS w X Y bt bm room S1 S1 W) := fun W h => h.behind hb
  rw [← hS1]
  obtain ⟨q0, q1, q2, q3, q4, q5, q6⟩ := h0.box hX hY
  obtain ⟨W0, hW0⟩ : ∃ W0, W0 = boxed w bt bm a := ⟨_, rfl⟩
  rw [← hW0] at h0 HB HT HR HF q0 q1 q2 q3 q4 q5 q6
  unfold boxed at hW0
  have HW0 := Lib.hid hW0
  obtain ⟨op, an, am, ap, at'⟩ := a
  simp only at HB HT HR HP q0 q1 q2 q3 q4 q5 q6
  clear ht hr hd hg hn ha hk hX hY hS hc hS1 hb hW0
  go_enter Try.func17, Try.ntmps17
  go_wp2_with (first | (go_at_call 25; rw [← HW0.out]; refine (HP.out _).mono ?_; rintro e w1 ⟨rfl, rfl⟩))
  have h0d : TwoS W0 X Y bt bm room S S W0.drew := h0.below (below_drew (Below.refl _ _))
  go_region_held3 (fun W => W.cell? ⟨w.heap.size, 0, none⟩ = some (.pointer (some ⟨bt, 0, none⟩)) ∧ W.cell? ⟨w.heap.size, 1, none⟩ = some (.pointer (some ⟨bm, 0, none⟩)) ∧ W.cell? ⟨w.heap.size + 1, 3, none⟩ = some (.string ap) ∧ W.cell? ⟨w.heap.size + 1, 4, none⟩ = some (.string at'))
    (first | exact HB.out _ _ _ (by assumption))
    (first
      | (go_at_call 15; refine (HT.out _ _ (by assumption)).mono ?_; rintro r w5 ⟨rfl, hcr5⟩)
      | (go_at_call 41; refine (HR.out _ _ (by assumption)).mono ?_; rintro r w6 ⟨rfl, hcr6⟩))
  all_goals (
    go_wp2
    go_ret
    exact ⟨rfl, HF.out _ (by assumption)⟩)

set_option maxRecDepth 100000 in
set_option maxHeartbeats 4000000 in
theorem does_1 (X Y : Nat → Prop) (bt bm : Nat) (room : Int) (n : Nat) (S : St) (a : ActV) (w : World) (ht : TreeS w X bt room S) (hr : RefS w Y bm room S) (hd : Disj X Y) (hg : Good room n S) (hn : n < 268435456) (ha : ActOk a) (hk : a.k = 1) :
    Calls Try.prog 17 #[.agg #[.pointer (some ⟨bt, 0, none⟩), .pointer (some ⟨bm, 0, none⟩)], .agg #[.int .i64 a.op, .int .i64 a.n, .int .i64 a.m, .string a.path, .string a.text]] w fun e w' => e = .returned (.bool true) ∧ TwoS w X Y bt bm room (actS room S a) (actS room S a) w' := by
  have hX := TreeR.lt ht
  have hY := hr.lt
  have hS : actS room S a = (opW room S a.path.data.toList a.text.data.toList).2 := by unfold actS; rw [hk]; rfl
  rw [hS]
  obtain ⟨c, hc⟩ : ∃ c, c = (opW room S a.path.data.toList a.text.data.toList).1 := ⟨_, rfl⟩
  obtain ⟨S1, hS1⟩ : ∃ S1, S1 = (opW room S a.path.data.toList a.text.data.toList).2 := ⟨_, rfl⟩
  have hb := boxed_below w bt bm a
  have h0 : TwoS (boxed w bt bm a) X Y bt bm room S S (boxed w bt bm a) := TwoS.start (TreeR.below ht hb) (hr.below hb) hd
  have HB : Hid (∀ U T W, TwoS (boxed w bt bm a) X Y bt bm room U T W → W.cell? ⟨w.heap.size, 0, none⟩ = some (.pointer (some ⟨bt, 0, none⟩)) ∧ W.cell? ⟨w.heap.size, 1, none⟩ = some (.pointer (some ⟨bm, 0, none⟩)) ∧ W.cell? ⟨w.heap.size + 1, 3, none⟩ = some (.string a.path) ∧ W.cell? ⟨w.heap.size + 1, 4, none⟩ = some (.string a.text)) := fun U T W h => by
    obtain ⟨p0, p1, p2, p3, p4, p5, p6⟩ := h.box hX hY
    exact ⟨p0, p1, p5, p6⟩
  have HT : Hid (∀ T W, TwoS (boxed w bt bm a) X Y bt bm room S T W → Calls Try.prog 15 #[.pointer (some ⟨bt, 0, none⟩), .string a.path, .string a.text] W fun r W' => r = .returned (.int .i64 c) ∧ TwoS (boxed w bt bm a) X Y bt bm room S1 T W') := by
    intro T W h
    rw [hc, hS1]
    exact h.doT fun X' h' => write_tree bt X' a.path a.text room S W h' (hg.ok (by omega)) (by have := ha.path1; omega) (by have := ha.text1; omega)
  have HR : Hid (∀ T W, TwoS (boxed w bt bm a) X Y bt bm room T S W → Calls Try.prog 41 #[.pointer (some ⟨bm, 0, none⟩), .string a.path, .string a.text] W fun r W' => r = .returned (.int .i64 c) ∧ TwoS (boxed w bt bm a) X Y bt bm room T S1 W') := by
    intro T W h
    rw [hc, hS1]
    exact h.doR fun Y' h' => rWrite_good bm Y' a.path a.text room n S W h' hg (by omega) (by have := ha.path1; omega) (by have := ha.text1; omega)
  have HP : Hid (∀ W, Calls Try.prog 25 #[.int .i64 a.op, .int .i64 8] W fun e w' => e = .returned (.int .i64 1) ∧ W = w') := by
    intro W
    have := pick_any a.op ha.op 8 (by omega) (by omega) W
    rw [show pickZ a.op 8 = 1 from hk] at this
    exact this
  have HF : Hid (∀ W, TwoS (boxed w bt bm a) X Y bt bm room S1 S1 W → TwoS w X Y bt bm room S1 S1 W) := fun W h => h.behind hb
  rw [← hS1]
  obtain ⟨q0, q1, q2, q3, q4, q5, q6⟩ := h0.box hX hY
  obtain ⟨W0, hW0⟩ : ∃ W0, W0 = boxed w bt bm a := ⟨_, rfl⟩
  rw [← hW0] at h0 HB HT HR HF q0 q1 q2 q3 q4 q5 q6
  unfold boxed at hW0
  have HW0 := Lib.hid hW0
  obtain ⟨op, an, am, ap, at'⟩ := a
  simp only at HB HT HR HP q0 q1 q2 q3 q4 q5 q6
  clear ht hr hd hg hn ha hk hX hY hS hc hS1 hb hW0
  go_enter Try.func17, Try.ntmps17
  go_wp2_with (first | (go_at_call 25; rw [← HW0.out]; refine (HP.out _).mono ?_; rintro e w1 ⟨rfl, rfl⟩))
  have h0d : TwoS W0 X Y bt bm room S S W0.drew := h0.below (below_drew (Below.refl _ _))
  go_region_held3 (fun W => W.cell? ⟨w.heap.size, 0, none⟩ = some (.pointer (some ⟨bt, 0, none⟩)) ∧ W.cell? ⟨w.heap.size, 1, none⟩ = some (.pointer (some ⟨bm, 0, none⟩)) ∧ W.cell? ⟨w.heap.size + 1, 3, none⟩ = some (.string ap) ∧ W.cell? ⟨w.heap.size + 1, 4, none⟩ = some (.string at'))
    (first | exact HB.out _ _ _ (by assumption))
    (first
      | (go_at_call 15; refine (HT.out _ _ (by assumption)).mono ?_; rintro r w5 ⟨rfl, hcr5⟩)
      | (go_at_call 41; refine (HR.out _ _ (by assumption)).mono ?_; rintro r w6 ⟨rfl, hcr6⟩))
  all_goals (
    go_wp2
    go_ret
    exact ⟨rfl, HF.out _ (by assumption)⟩)

set_option maxRecDepth 100000 in
set_option maxHeartbeats 4000000 in
theorem does_2 (X Y : Nat → Prop) (bt bm : Nat) (room : Int) (n : Nat) (S : St) (a : ActV) (w : World) (ht : TreeS w X bt room S) (hr : RefS w Y bm room S) (hd : Disj X Y) (hg : Good room n S) (hn : n < 268435456) (ha : ActOk a) (hk : a.k = 2) :
    Calls Try.prog 17 #[.agg #[.pointer (some ⟨bt, 0, none⟩), .pointer (some ⟨bm, 0, none⟩)], .agg #[.int .i64 a.op, .int .i64 a.n, .int .i64 a.m, .string a.path, .string a.text]] w fun e w' => e = .returned (.bool true) ∧ TwoS w X Y bt bm room (actS room S a) (actS room S a) w' := by
  have hX := TreeR.lt ht
  have hY := hr.lt
  have hS : actS room S a = (opA room S a.path.data.toList a.text.data.toList).2 := by unfold actS; rw [hk]; rfl
  rw [hS]
  obtain ⟨c, hc⟩ : ∃ c, c = (opA room S a.path.data.toList a.text.data.toList).1 := ⟨_, rfl⟩
  obtain ⟨S1, hS1⟩ : ∃ S1, S1 = (opA room S a.path.data.toList a.text.data.toList).2 := ⟨_, rfl⟩
  have hb := boxed_below w bt bm a
  have h0 : TwoS (boxed w bt bm a) X Y bt bm room S S (boxed w bt bm a) := TwoS.start (TreeR.below ht hb) (hr.below hb) hd
  have HB : Hid (∀ U T W, TwoS (boxed w bt bm a) X Y bt bm room U T W → W.cell? ⟨w.heap.size, 0, none⟩ = some (.pointer (some ⟨bt, 0, none⟩)) ∧ W.cell? ⟨w.heap.size, 1, none⟩ = some (.pointer (some ⟨bm, 0, none⟩)) ∧ W.cell? ⟨w.heap.size + 1, 3, none⟩ = some (.string a.path) ∧ W.cell? ⟨w.heap.size + 1, 4, none⟩ = some (.string a.text)) := fun U T W h => by
    obtain ⟨p0, p1, p2, p3, p4, p5, p6⟩ := h.box hX hY
    exact ⟨p0, p1, p5, p6⟩
  have HT : Hid (∀ T W, TwoS (boxed w bt bm a) X Y bt bm room S T W → Calls Try.prog 29 #[.pointer (some ⟨bt, 0, none⟩), .string a.path, .string a.text] W fun r W' => r = .returned (.int .i64 c) ∧ TwoS (boxed w bt bm a) X Y bt bm room S1 T W') := by
    intro T W h
    rw [hc, hS1]
    exact h.doT fun X' h' => append_tree bt X' a.path a.text room S W h' (hg.ok (by omega)) (by have := ha.path1; omega) (by have := ha.text1; omega) (hg.tx _)
  have HR : Hid (∀ T W, TwoS (boxed w bt bm a) X Y bt bm room T S W → Calls Try.prog 42 #[.pointer (some ⟨bm, 0, none⟩), .string a.path, .string a.text] W fun r W' => r = .returned (.int .i64 c) ∧ TwoS (boxed w bt bm a) X Y bt bm room T S1 W') := by
    intro T W h
    rw [hc, hS1]
    exact h.doR fun Y' h' => rAppend_good bm Y' a.path a.text room n S W h' hg (by omega) (by have := ha.path1; omega) (by have := ha.text1; omega)
  have HP : Hid (∀ W, Calls Try.prog 25 #[.int .i64 a.op, .int .i64 8] W fun e w' => e = .returned (.int .i64 2) ∧ W = w') := by
    intro W
    have := pick_any a.op ha.op 8 (by omega) (by omega) W
    rw [show pickZ a.op 8 = 2 from hk] at this
    exact this
  have HF : Hid (∀ W, TwoS (boxed w bt bm a) X Y bt bm room S1 S1 W → TwoS w X Y bt bm room S1 S1 W) := fun W h => h.behind hb
  rw [← hS1]
  obtain ⟨q0, q1, q2, q3, q4, q5, q6⟩ := h0.box hX hY
  obtain ⟨W0, hW0⟩ : ∃ W0, W0 = boxed w bt bm a := ⟨_, rfl⟩
  rw [← hW0] at h0 HB HT HR HF q0 q1 q2 q3 q4 q5 q6
  unfold boxed at hW0
  have HW0 := Lib.hid hW0
  obtain ⟨op, an, am, ap, at'⟩ := a
  simp only at HB HT HR HP q0 q1 q2 q3 q4 q5 q6
  clear ht hr hd hg hn ha hk hX hY hS hc hS1 hb hW0
  go_enter Try.func17, Try.ntmps17
  go_wp2_with (first | (go_at_call 25; rw [← HW0.out]; refine (HP.out _).mono ?_; rintro e w1 ⟨rfl, rfl⟩))
  have h0d : TwoS W0 X Y bt bm room S S W0.drew := h0.below (below_drew (Below.refl _ _))
  go_region_held3 (fun W => W.cell? ⟨w.heap.size, 0, none⟩ = some (.pointer (some ⟨bt, 0, none⟩)) ∧ W.cell? ⟨w.heap.size, 1, none⟩ = some (.pointer (some ⟨bm, 0, none⟩)) ∧ W.cell? ⟨w.heap.size + 1, 3, none⟩ = some (.string ap) ∧ W.cell? ⟨w.heap.size + 1, 4, none⟩ = some (.string at'))
    (first | exact HB.out _ _ _ (by assumption))
    (first
      | (go_at_call 29; refine (HT.out _ _ (by assumption)).mono ?_; rintro r w5 ⟨rfl, hcr5⟩)
      | (go_at_call 42; refine (HR.out _ _ (by assumption)).mono ?_; rintro r w6 ⟨rfl, hcr6⟩))
  all_goals (
    go_wp2
    go_ret
    exact ⟨rfl, HF.out _ (by assumption)⟩)

set_option maxRecDepth 100000 in
set_option maxHeartbeats 4000000 in
theorem does_3 (X Y : Nat → Prop) (bt bm : Nat) (room : Int) (n : Nat) (S : St) (a : ActV) (w : World) (ht : TreeS w X bt room S) (hr : RefS w Y bm room S) (hd : Disj X Y) (hg : Good room n S) (hn : n < 268435456) (ha : ActOk a) (hk : a.k = 3) :
    Calls Try.prog 17 #[.agg #[.pointer (some ⟨bt, 0, none⟩), .pointer (some ⟨bm, 0, none⟩)], .agg #[.int .i64 a.op, .int .i64 a.n, .int .i64 a.m, .string a.path, .string a.text]] w fun e w' => e = .returned (.bool true) ∧ TwoS w X Y bt bm room (actS room S a) (actS room S a) w' := by
  have hX := TreeR.lt ht
  have hY := hr.lt
  have hS : actS room S a = (opA room S a.path.data.toList a.text.data.toList).2 := by unfold actS; rw [hk]; rfl
  rw [hS]
  obtain ⟨c, hc⟩ : ∃ c, c = (opA room S a.path.data.toList a.text.data.toList).1 := ⟨_, rfl⟩
  obtain ⟨S1, hS1⟩ : ∃ S1, S1 = (opA room S a.path.data.toList a.text.data.toList).2 := ⟨_, rfl⟩
  have hb := boxed_below w bt bm a
  have h0 : TwoS (boxed w bt bm a) X Y bt bm room S S (boxed w bt bm a) := TwoS.start (TreeR.below ht hb) (hr.below hb) hd
  have HB : Hid (∀ U T W, TwoS (boxed w bt bm a) X Y bt bm room U T W → W.cell? ⟨w.heap.size, 0, none⟩ = some (.pointer (some ⟨bt, 0, none⟩)) ∧ W.cell? ⟨w.heap.size, 1, none⟩ = some (.pointer (some ⟨bm, 0, none⟩)) ∧ W.cell? ⟨w.heap.size + 1, 3, none⟩ = some (.string a.path) ∧ W.cell? ⟨w.heap.size + 1, 4, none⟩ = some (.string a.text)) := fun U T W h => by
    obtain ⟨p0, p1, p2, p3, p4, p5, p6⟩ := h.box hX hY
    exact ⟨p0, p1, p5, p6⟩
  have HT : Hid (∀ T W, TwoS (boxed w bt bm a) X Y bt bm room S T W → Calls Try.prog 29 #[.pointer (some ⟨bt, 0, none⟩), .string a.path, .string a.text] W fun r W' => r = .returned (.int .i64 c) ∧ TwoS (boxed w bt bm a) X Y bt bm room S1 T W') := by
    intro T W h
    rw [hc, hS1]
    exact h.doT fun X' h' => append_tree bt X' a.path a.text room S W h' (hg.ok (by omega)) (by have := ha.path1; omega) (by have := ha.text1; omega) (hg.tx _)
  have HR : Hid (∀ T W, TwoS (boxed w bt bm a) X Y bt bm room T S W → Calls Try.prog 42 #[.pointer (some ⟨bm, 0, none⟩), .string a.path, .string a.text] W fun r W' => r = .returned (.int .i64 c) ∧ TwoS (boxed w bt bm a) X Y bt bm room T S1 W') := by
    intro T W h
    rw [hc, hS1]
    exact h.doR fun Y' h' => rAppend_good bm Y' a.path a.text room n S W h' hg (by omega) (by have := ha.path1; omega) (by have := ha.text1; omega)
  have HP : Hid (∀ W, Calls Try.prog 25 #[.int .i64 a.op, .int .i64 8] W fun e w' => e = .returned (.int .i64 3) ∧ W = w') := by
    intro W
    have := pick_any a.op ha.op 8 (by omega) (by omega) W
    rw [show pickZ a.op 8 = 3 from hk] at this
    exact this
  have HF : Hid (∀ W, TwoS (boxed w bt bm a) X Y bt bm room S1 S1 W → TwoS w X Y bt bm room S1 S1 W) := fun W h => h.behind hb
  rw [← hS1]
  obtain ⟨q0, q1, q2, q3, q4, q5, q6⟩ := h0.box hX hY
  obtain ⟨W0, hW0⟩ : ∃ W0, W0 = boxed w bt bm a := ⟨_, rfl⟩
  rw [← hW0] at h0 HB HT HR HF q0 q1 q2 q3 q4 q5 q6
  unfold boxed at hW0
  have HW0 := Lib.hid hW0
  obtain ⟨op, an, am, ap, at'⟩ := a
  simp only at HB HT HR HP q0 q1 q2 q3 q4 q5 q6
  clear ht hr hd hg hn ha hk hX hY hS hc hS1 hb hW0
  go_enter Try.func17, Try.ntmps17
  go_wp2_with (first | (go_at_call 25; rw [← HW0.out]; refine (HP.out _).mono ?_; rintro e w1 ⟨rfl, rfl⟩))
  have h0d : TwoS W0 X Y bt bm room S S W0.drew := h0.below (below_drew (Below.refl _ _))
  go_region_held3 (fun W => W.cell? ⟨w.heap.size, 0, none⟩ = some (.pointer (some ⟨bt, 0, none⟩)) ∧ W.cell? ⟨w.heap.size, 1, none⟩ = some (.pointer (some ⟨bm, 0, none⟩)) ∧ W.cell? ⟨w.heap.size + 1, 3, none⟩ = some (.string ap) ∧ W.cell? ⟨w.heap.size + 1, 4, none⟩ = some (.string at'))
    (first | exact HB.out _ _ _ (by assumption))
    (first
      | (go_at_call 29; refine (HT.out _ _ (by assumption)).mono ?_; rintro r w5 ⟨rfl, hcr5⟩)
      | (go_at_call 42; refine (HR.out _ _ (by assumption)).mono ?_; rintro r w6 ⟨rfl, hcr6⟩))
  all_goals (
    go_wp2
    go_ret
    exact ⟨rfl, HF.out _ (by assumption)⟩)

set_option maxRecDepth 100000 in
set_option maxHeartbeats 4000000 in
theorem does_4 (X Y : Nat → Prop) (bt bm : Nat) (room : Int) (n : Nat) (S : St) (a : ActV) (w : World) (ht : TreeS w X bt room S) (hr : RefS w Y bm room S) (hd : Disj X Y) (hg : Good room n S) (hn : n < 268435456) (ha : ActOk a) (hk : a.k = 4) :
    Calls Try.prog 17 #[.agg #[.pointer (some ⟨bt, 0, none⟩), .pointer (some ⟨bm, 0, none⟩)], .agg #[.int .i64 a.op, .int .i64 a.n, .int .i64 a.m, .string a.path, .string a.text]] w fun e w' => e = .returned (.bool true) ∧ TwoS w X Y bt bm room (actS room S a) (actS room S a) w' := by
  have hX := TreeR.lt ht
  have hY := hr.lt
  have hS : actS room S a = (opR S a.path.data.toList).2 := by unfold actS; rw [hk]; rfl
  rw [hS]
  obtain ⟨c, hc⟩ : ∃ c, c = (opR S a.path.data.toList).1 := ⟨_, rfl⟩
  obtain ⟨S1, hS1⟩ : ∃ S1, S1 = (opR S a.path.data.toList).2 := ⟨_, rfl⟩
  have hb := boxed_below w bt bm a
  have h0 : TwoS (boxed w bt bm a) X Y bt bm room S S (boxed w bt bm a) := TwoS.start (TreeR.below ht hb) (hr.below hb) hd
  have HB : Hid (∀ U T W, TwoS (boxed w bt bm a) X Y bt bm room U T W → W.cell? ⟨w.heap.size, 0, none⟩ = some (.pointer (some ⟨bt, 0, none⟩)) ∧ W.cell? ⟨w.heap.size, 1, none⟩ = some (.pointer (some ⟨bm, 0, none⟩)) ∧ W.cell? ⟨w.heap.size + 1, 3, none⟩ = some (.string a.path)) := fun U T W h => by
    obtain ⟨p0, p1, p2, p3, p4, p5, p6⟩ := h.box hX hY
    exact ⟨p0, p1, p5⟩
  have HT : Hid (∀ T W, TwoS (boxed w bt bm a) X Y bt bm room S T W → Calls Try.prog 21 #[.pointer (some ⟨bt, 0, none⟩), .string a.path] W fun r W' => r = .returned (.int .i64 c) ∧ TwoS (boxed w bt bm a) X Y bt bm room S1 T W') := by
    intro T W h
    rw [hc, hS1]
    exact h.doT fun X' h' => remove_tree bt X' a.path room S W h' (hg.ok (by omega)) (by have := ha.path1; omega)
  have HR : Hid (∀ T W, TwoS (boxed w bt bm a) X Y bt bm room T S W → Calls Try.prog 43 #[.pointer (some ⟨bm, 0, none⟩), .string a.path] W fun r W' => r = .returned (.int .i64 c) ∧ TwoS (boxed w bt bm a) X Y bt bm room T S1 W') := by
    intro T W h
    rw [hc, hS1]
    exact h.doR fun Y' h' => rRemove_good bm Y' a.path room n S W h' hg (by omega)
  have HP : Hid (∀ W, Calls Try.prog 25 #[.int .i64 a.op, .int .i64 8] W fun e w' => e = .returned (.int .i64 4) ∧ W = w') := by
    intro W
    have := pick_any a.op ha.op 8 (by omega) (by omega) W
    rw [show pickZ a.op 8 = 4 from hk] at this
    exact this
  have HF : Hid (∀ W, TwoS (boxed w bt bm a) X Y bt bm room S1 S1 W → TwoS w X Y bt bm room S1 S1 W) := fun W h => h.behind hb
  rw [← hS1]
  obtain ⟨q0, q1, q2, q3, q4, q5, q6⟩ := h0.box hX hY
  obtain ⟨W0, hW0⟩ : ∃ W0, W0 = boxed w bt bm a := ⟨_, rfl⟩
  rw [← hW0] at h0 HB HT HR HF q0 q1 q2 q3 q4 q5 q6
  unfold boxed at hW0
  have HW0 := Lib.hid hW0
  obtain ⟨op, an, am, ap, at'⟩ := a
  simp only at HB HT HR HP q0 q1 q2 q3 q4 q5 q6
  clear ht hr hd hg hn ha hk hX hY hS hc hS1 hb hW0
  go_enter Try.func17, Try.ntmps17
  go_wp2_with (first | (go_at_call 25; rw [← HW0.out]; refine (HP.out _).mono ?_; rintro e w1 ⟨rfl, rfl⟩))
  have h0d : TwoS W0 X Y bt bm room S S W0.drew := h0.below (below_drew (Below.refl _ _))
  go_region_held3 (fun W => W.cell? ⟨w.heap.size, 0, none⟩ = some (.pointer (some ⟨bt, 0, none⟩)) ∧ W.cell? ⟨w.heap.size, 1, none⟩ = some (.pointer (some ⟨bm, 0, none⟩)) ∧ W.cell? ⟨w.heap.size + 1, 3, none⟩ = some (.string ap))
    (first | exact HB.out _ _ _ (by assumption))
    (first
      | (go_at_call 21; refine (HT.out _ _ (by assumption)).mono ?_; rintro r w5 ⟨rfl, hcr5⟩)
      | (go_at_call 43; refine (HR.out _ _ (by assumption)).mono ?_; rintro r w6 ⟨rfl, hcr6⟩))
  all_goals (
    go_wp2
    go_ret
    exact ⟨rfl, HF.out _ (by assumption)⟩)

set_option maxRecDepth 100000 in
set_option maxHeartbeats 4000000 in
theorem does_5 (X Y : Nat → Prop) (bt bm : Nat) (room : Int) (n : Nat) (S : St) (a : ActV) (w : World) (ht : TreeS w X bt room S) (hr : RefS w Y bm room S) (hd : Disj X Y) (hg : Good room n S) (hn : n < 268435456) (ha : ActOk a) (hk : a.k = 5) :
    Calls Try.prog 17 #[.agg #[.pointer (some ⟨bt, 0, none⟩), .pointer (some ⟨bm, 0, none⟩)], .agg #[.int .i64 a.op, .int .i64 a.n, .int .i64 a.m, .string a.path, .string a.text]] w fun e w' => e = .returned (.bool true) ∧ TwoS w X Y bt bm room (actS room S a) (actS room S a) w' := by
  have hX := TreeR.lt ht
  have hY := hr.lt
  have hS : actS room S a = (opN S a.path.data.toList a.text.data.toList).2 := by unfold actS; rw [hk]; rfl
  rw [hS]
  obtain ⟨c, hc⟩ : ∃ c, c = (opN S a.path.data.toList a.text.data.toList).1 := ⟨_, rfl⟩
  obtain ⟨S1, hS1⟩ : ∃ S1, S1 = (opN S a.path.data.toList a.text.data.toList).2 := ⟨_, rfl⟩
  have hb := boxed_below w bt bm a
  have h0 : TwoS (boxed w bt bm a) X Y bt bm room S S (boxed w bt bm a) := TwoS.start (TreeR.below ht hb) (hr.below hb) hd
  have HB : Hid (∀ U T W, TwoS (boxed w bt bm a) X Y bt bm room U T W → W.cell? ⟨w.heap.size, 0, none⟩ = some (.pointer (some ⟨bt, 0, none⟩)) ∧ W.cell? ⟨w.heap.size, 1, none⟩ = some (.pointer (some ⟨bm, 0, none⟩)) ∧ W.cell? ⟨w.heap.size + 1, 3, none⟩ = some (.string a.path) ∧ W.cell? ⟨w.heap.size + 1, 4, none⟩ = some (.string a.text)) := fun U T W h => by
    obtain ⟨p0, p1, p2, p3, p4, p5, p6⟩ := h.box hX hY
    exact ⟨p0, p1, p5, p6⟩
  have HT : Hid (∀ T W, TwoS (boxed w bt bm a) X Y bt bm room S T W → Calls Try.prog 23 #[.pointer (some ⟨bt, 0, none⟩), .string a.path, .string a.text] W fun r W' => r = .returned (.int .i64 c) ∧ TwoS (boxed w bt bm a) X Y bt bm room S1 T W') := by
    intro T W h
    rw [hc, hS1]
    exact h.doT fun X' h' => rename_tree bt X' a.path a.text room S W h' (hg.ok (by omega)) (by have := ha.path1; omega) (by have := ha.text1; omega)
  have HR : Hid (∀ T W, TwoS (boxed w bt bm a) X Y bt bm room T S W → Calls Try.prog 44 #[.pointer (some ⟨bm, 0, none⟩), .string a.path, .string a.text] W fun r W' => r = .returned (.int .i64 c) ∧ TwoS (boxed w bt bm a) X Y bt bm room T S1 W') := by
    intro T W h
    rw [hc, hS1]
    exact h.doR fun Y' h' => rRename_good bm Y' a.path a.text room n S W h' hg (by omega) (by have := ha.text1; omega)
  have HP : Hid (∀ W, Calls Try.prog 25 #[.int .i64 a.op, .int .i64 8] W fun e w' => e = .returned (.int .i64 5) ∧ W = w') := by
    intro W
    have := pick_any a.op ha.op 8 (by omega) (by omega) W
    rw [show pickZ a.op 8 = 5 from hk] at this
    exact this
  have HF : Hid (∀ W, TwoS (boxed w bt bm a) X Y bt bm room S1 S1 W → TwoS w X Y bt bm room S1 S1 W) := fun W h => h.behind hb
  rw [← hS1]
  obtain ⟨q0, q1, q2, q3, q4, q5, q6⟩ := h0.box hX hY
  obtain ⟨W0, hW0⟩ : ∃ W0, W0 = boxed w bt bm a := ⟨_, rfl⟩
  rw [← hW0] at h0 HB HT HR HF q0 q1 q2 q3 q4 q5 q6
  unfold boxed at hW0
  have HW0 := Lib.hid hW0
  obtain ⟨op, an, am, ap, at'⟩ := a
  simp only at HB HT HR HP q0 q1 q2 q3 q4 q5 q6
  clear ht hr hd hg hn ha hk hX hY hS hc hS1 hb hW0
  go_enter Try.func17, Try.ntmps17
  go_wp2_with (first | (go_at_call 25; rw [← HW0.out]; refine (HP.out _).mono ?_; rintro e w1 ⟨rfl, rfl⟩))
  have h0d : TwoS W0 X Y bt bm room S S W0.drew := h0.below (below_drew (Below.refl _ _))
  go_region_held3 (fun W => W.cell? ⟨w.heap.size, 0, none⟩ = some (.pointer (some ⟨bt, 0, none⟩)) ∧ W.cell? ⟨w.heap.size, 1, none⟩ = some (.pointer (some ⟨bm, 0, none⟩)) ∧ W.cell? ⟨w.heap.size + 1, 3, none⟩ = some (.string ap) ∧ W.cell? ⟨w.heap.size + 1, 4, none⟩ = some (.string at'))
    (first | exact HB.out _ _ _ (by assumption))
    (first
      | (go_at_call 23; refine (HT.out _ _ (by assumption)).mono ?_; rintro r w5 ⟨rfl, hcr5⟩)
      | (go_at_call 44; refine (HR.out _ _ (by assumption)).mono ?_; rintro r w6 ⟨rfl, hcr6⟩))
  all_goals (
    go_wp2
    go_ret
    exact ⟨rfl, HF.out _ (by assumption)⟩)

set_option maxRecDepth 100000 in
set_option maxHeartbeats 4000000 in
theorem does_6 (X Y : Nat → Prop) (bt bm : Nat) (room : Int) (n : Nat) (S : St) (a : ActV) (w : World) (ht : TreeS w X bt room S) (hr : RefS w Y bm room S) (hd : Disj X Y) (hg : Good room n S) (_hn : n < 268435456) (ha : ActOk a) (hk : a.k = 6) :
    Calls Try.prog 17 #[.agg #[.pointer (some ⟨bt, 0, none⟩), .pointer (some ⟨bm, 0, none⟩)], .agg #[.int .i64 a.op, .int .i64 a.n, .int .i64 a.m, .string a.path, .string a.text]] w fun e w' => e = .returned (.bool true) ∧ TwoS w X Y bt bm room (actS room S a) (actS room S a) w' := by
  have hX := TreeR.lt ht
  have hY := hr.lt
  have hS : actS room S a = opS S := by unfold actS; rw [hk]; rfl
  rw [hS]
  obtain ⟨S1, hS1⟩ : ∃ S1, S1 = opS S := ⟨_, rfl⟩
  have hb := boxed_below w bt bm a
  have h0 : TwoS (boxed w bt bm a) X Y bt bm room S S (boxed w bt bm a) := TwoS.start (TreeR.below ht hb) (hr.below hb) hd
  have HB : Hid (∀ U T W, TwoS (boxed w bt bm a) X Y bt bm room U T W → W.cell? ⟨w.heap.size, 0, none⟩ = some (.pointer (some ⟨bt, 0, none⟩)) ∧ W.cell? ⟨w.heap.size, 1, none⟩ = some (.pointer (some ⟨bm, 0, none⟩))) := fun U T W h => by
    obtain ⟨p0, p1, p2, p3, p4, p5, p6⟩ := h.box hX hY
    exact ⟨p0, p1⟩
  have HT : Hid (∀ T W, TwoS (boxed w bt bm a) X Y bt bm room S T W → Calls Try.prog 22 #[.pointer (some ⟨bt, 0, none⟩)] W fun r W' => r = .returned (.tuple #[]) ∧ TwoS (boxed w bt bm a) X Y bt bm room S1 T W') := by
    intro T W h
    rw [hS1]
    exact h.doT fun X' h' => sync_tree bt X' room S W h' hg.files.len
  have HR : Hid (∀ T W, TwoS (boxed w bt bm a) X Y bt bm room T S W → Calls Try.prog 45 #[.pointer (some ⟨bm, 0, none⟩)] W fun r W' => r = .returned (.tuple #[]) ∧ TwoS (boxed w bt bm a) X Y bt bm room T S1 W') := by
    intro T W h
    rw [hS1]
    exact h.doR fun Y' h' => rSync_good bm Y' room S W h'
  have HP : Hid (∀ W, Calls Try.prog 25 #[.int .i64 a.op, .int .i64 8] W fun e w' => e = .returned (.int .i64 6) ∧ W = w') := by
    intro W
    have := pick_any a.op ha.op 8 (by omega) (by omega) W
    rw [show pickZ a.op 8 = 6 from hk] at this
    exact this
  have HF : Hid (∀ W, TwoS (boxed w bt bm a) X Y bt bm room S1 S1 W → TwoS w X Y bt bm room S1 S1 W) := fun W h => h.behind hb
  rw [← hS1]
  obtain ⟨q0, q1, q2, q3, q4, q5, q6⟩ := h0.box hX hY
  obtain ⟨W0, hW0⟩ : ∃ W0, W0 = boxed w bt bm a := ⟨_, rfl⟩
  rw [← hW0] at h0 HB HT HR HF q0 q1 q2 q3 q4 q5 q6
  unfold boxed at hW0
  have HW0 := Lib.hid hW0
  obtain ⟨op, an, am, ap, at'⟩ := a
  simp only at HB HT HR HP q0 q1 q2 q3 q4 q5 q6
  clear ht hr hd hg _hn ha hk hX hY hS hS1 hb hW0
  go_enter Try.func17, Try.ntmps17
  go_wp2_with (first
    | (go_at_call 25; rw [← HW0.out]; refine (HP.out _).mono ?_; rintro e w1 ⟨rfl, rfl⟩)
    | (go_at_call 22; refine (HT.out _ _ (by assumption)).mono ?_; rintro r w5 ⟨rfl, hcr5⟩; have hcc5 := HB.out _ _ _ hcr5)
    | (go_at_call 45; refine (HR.out _ _ (by assumption)).mono ?_; rintro r w6 ⟨rfl, hcr6⟩))
  go_ret
  exact ⟨rfl, HF.out _ (by assumption)⟩

set_option maxRecDepth 100000 in
set_option maxHeartbeats 4000000 in
theorem does_7 (X Y : Nat → Prop) (bt bm : Nat) (room : Int) (n : Nat) (S : St) (a : ActV) (w : World) (ht : TreeS w X bt room S) (hr : RefS w Y bm room S) (hd : Disj X Y) (hg : Good room n S) (_hn : n < 268435456) (ha : ActOk a) (hk : a.k = 7) :
    Calls Try.prog 17 #[.agg #[.pointer (some ⟨bt, 0, none⟩), .pointer (some ⟨bm, 0, none⟩)], .agg #[.int .i64 a.op, .int .i64 a.n, .int .i64 a.m, .string a.path, .string a.text]] w fun e w' => e = .returned (.bool true) ∧ TwoS w X Y bt bm room (actS room S a) (actS room S a) w' := by
  have hX := TreeR.lt ht
  have hY := hr.lt
  have hS : actS room S a = opC S a.n a.m := by unfold actS; rw [hk]; rfl
  rw [hS]
  obtain ⟨S1, hS1⟩ : ∃ S1, S1 = opC S a.n a.m := ⟨_, rfl⟩
  have hb := boxed_below w bt bm a
  have h0 : TwoS (boxed w bt bm a) X Y bt bm room S S (boxed w bt bm a) := TwoS.start (TreeR.below ht hb) (hr.below hb) hd
  have HB : Hid (∀ U T W, TwoS (boxed w bt bm a) X Y bt bm room U T W → W.cell? ⟨w.heap.size, 0, none⟩ = some (.pointer (some ⟨bt, 0, none⟩)) ∧ W.cell? ⟨w.heap.size, 1, none⟩ = some (.pointer (some ⟨bm, 0, none⟩)) ∧ W.cell? ⟨w.heap.size + 1, 1, none⟩ = some (.int .i64 a.n) ∧ W.cell? ⟨w.heap.size + 1, 2, none⟩ = some (.int .i64 a.m)) := fun U T W h => by
    obtain ⟨p0, p1, p2, p3, p4, p5, p6⟩ := h.box hX hY
    exact ⟨p0, p1, p3, p4⟩
  have HT : Hid (∀ T W, TwoS (boxed w bt bm a) X Y bt bm room S T W → Calls Try.prog 16 #[.pointer (some ⟨bt, 0, none⟩), .int .i64 a.n, .int .i64 a.m] W fun r W' => r = .returned (.tuple #[]) ∧ TwoS (boxed w bt bm a) X Y bt bm room S1 T W') := by
    intro T W h
    rw [hS1]
    exact h.doT fun X' h' => crash_tree bt X' room S a.n a.m W h' hg.run.head.len hg.run.goes (by have := ha.m; omega)
  have HR : Hid (∀ T W, TwoS (boxed w bt bm a) X Y bt bm room T S W → Calls Try.prog 46 #[.pointer (some ⟨bm, 0, none⟩), .int .i64 a.n, .int .i64 a.m] W fun r W' => r = .returned (.tuple #[]) ∧ TwoS (boxed w bt bm a) X Y bt bm room T S1 W') := by
    intro T W h
    rw [hS1]
    exact h.doR fun Y' h' => rCrash_good bm Y' a.n a.m room n S W h' hg (by have := ha.m; omega)
  have HP : Hid (∀ W, Calls Try.prog 25 #[.int .i64 a.op, .int .i64 8] W fun e w' => e = .returned (.int .i64 7) ∧ W = w') := by
    intro W
    have := pick_any a.op ha.op 8 (by omega) (by omega) W
    rw [show pickZ a.op 8 = 7 from hk] at this
    exact this
  have HF : Hid (∀ W, TwoS (boxed w bt bm a) X Y bt bm room S1 S1 W → TwoS w X Y bt bm room S1 S1 W) := fun W h => h.behind hb
  rw [← hS1]
  obtain ⟨q0, q1, q2, q3, q4, q5, q6⟩ := h0.box hX hY
  obtain ⟨W0, hW0⟩ : ∃ W0, W0 = boxed w bt bm a := ⟨_, rfl⟩
  rw [← hW0] at h0 HB HT HR HF q0 q1 q2 q3 q4 q5 q6
  unfold boxed at hW0
  have HW0 := Lib.hid hW0
  obtain ⟨op, an, am, ap, at'⟩ := a
  simp only at HB HT HR HP q0 q1 q2 q3 q4 q5 q6
  clear ht hr hd hg _hn ha hk hX hY hS hS1 hb hW0
  go_enter Try.func17, Try.ntmps17
  go_wp2_with (first
    | (go_at_call 25; rw [← HW0.out]; refine (HP.out _).mono ?_; rintro e w1 ⟨rfl, rfl⟩)
    | (go_at_call 16; refine (HT.out _ _ (by assumption)).mono ?_; rintro r w5 ⟨rfl, hcr5⟩; have hcc5 := HB.out _ _ _ hcr5)
    | (go_at_call 46; refine (HR.out _ _ (by assumption)).mono ?_; rintro r w6 ⟨rfl, hcr6⟩))
  go_ret
  exact ⟨rfl, HF.out _ (by assumption)⟩

/-- An act, done to both. -/
theorem does_any (X Y : Nat → Prop) (bt bm : Nat) (room : Int) (n : Nat) (S : St) (a : ActV) (w : World) (ht : TreeS w X bt room S) (hr : RefS w Y bm room S) (hd : Disj X Y) (hg : Good room n S) (hn : n < 268435456) (ha : ActOk a) :
    Calls Try.prog 17 #[.agg #[.pointer (some ⟨bt, 0, none⟩), .pointer (some ⟨bm, 0, none⟩)], .agg (actCells a).toArray] w fun e w' => e = .returned (.bool true) ∧ TwoS w X Y bt bm room (actS room S a) (actS room S a) w' := by
  have h8 := a.k8
  rcases (show a.k = 0 ∨ a.k = 1 ∨ a.k = 2 ∨ a.k = 3 ∨ a.k = 4 ∨ a.k = 5 ∨ a.k = 6 ∨ a.k = 7 by omega) with h | h | h | h | h | h | h | h
  · exact does_0 X Y bt bm room n S a w ht hr hd hg hn ha h
  · exact does_1 X Y bt bm room n S a w ht hr hd hg hn ha h
  · exact does_2 X Y bt bm room n S a w ht hr hd hg hn ha h
  · exact does_3 X Y bt bm room n S a w ht hr hd hg hn ha h
  · exact does_4 X Y bt bm room n S a w ht hr hd hg hn ha h
  · exact does_5 X Y bt bm room n S a w ht hr hd hg hn ha h
  · exact does_6 X Y bt bm room n S a w ht hr hd hg hn ha h
  · exact does_7 X Y bt bm room n S a w ht hr hd hg hn ha h

end Go.Proofs.Ytginlknlkbhgaaa
