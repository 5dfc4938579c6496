/-
  An act, done to both trees, which may hold not the same.
-/
import Derived.Deep.RegionHeld3
import Derived.Test.YtginlknlkbhgaaaFLaw1
import Derived.Test.YtginlknlkbhgaaaFRef9
namespace Go.Proofs.Ytginlknlkbhgaaa
open Go.RowKit Go.Shelf Go.Maps

set_option maxRecDepth 100000 in
set_option maxHeartbeats 4000000 in
theorem doesb_0 (X Y : Nat → Prop) (bt bm : Nat) (room : Int) (n : Nat) (S T0 : St) (a : ActV) (w : World) (ht : TreeS w X bt room S) (hr : RefS w Y bm room T0) (hd : Disj X Y) (hg : Good room n S) (hg2 : Good room n T0) (hn : n < 268435456) (ha : ActOk a) (hk : a.k = 0) :
    Calls Try.prog 17 #[.agg #[.pointer (some ⟨bt, 0, none⟩), .pointer (some ⟨bm, 0, none⟩)], .agg #[.int .i64 a.op, .int .i64 a.n, .int .i64 a.m, .string a.path, .string a.text]] w fun e w' => (∃ z, e = .returned (.bool z)) ∧ TwoS w X Y bt bm room (actS room S a) (actS room T0 a) w' := by
  have hX := TreeR.lt ht
  have hY := hr.lt
  have hS : actS room S a = (opW room S a.path.data.toList a.text.data.toList).2 := by unfold actS; rw [hk]; rfl
  have hS2 : actS room T0 a = (opW room T0 a.path.data.toList a.text.data.toList).2 := by unfold actS; rw [hk]; rfl
  rw [hS, hS2]
  obtain ⟨c, hc⟩ : ∃ c, c = (opW room S a.path.data.toList a.text.data.toList).1 := ⟨_, rfl⟩
  obtain ⟨S1, hS1⟩ : ∃ S1, S1 = (opW room S a.path.data.toList a.text.data.toList).2 := ⟨_, rfl⟩
  obtain ⟨d, hd0⟩ : ∃ d, d = (opW room T0 a.path.data.toList a.text.data.toList).1 := ⟨_, rfl⟩
  obtain ⟨T1, hT1⟩ : ∃ T1, T1 = (opW room T0 a.path.data.toList a.text.data.toList).2 := ⟨_, rfl⟩
  have hb := boxed_below w bt bm a
  have h0 : TwoS (boxed w bt bm a) X Y bt bm room S T0 (boxed w bt bm a) := TwoS.start (TreeR.below ht hb) (hr.below hb) hd
  have HB : Hid (∀ U T W, TwoS (boxed w bt bm a) X Y bt bm room U T W → W.cell? ⟨w.heap.size, 0, none⟩ = some (.pointer (some ⟨bt, 0, none⟩)) ∧ W.cell? ⟨w.heap.size, 1, none⟩ = some (.pointer (some ⟨bm, 0, none⟩)) ∧ W.cell? ⟨w.heap.size + 1, 3, none⟩ = some (.string a.path) ∧ W.cell? ⟨w.heap.size + 1, 4, none⟩ = some (.string a.text)) := fun U T W h => by
    obtain ⟨p0, p1, p2, p3, p4, p5, p6⟩ := h.box hX hY
    exact ⟨p0, p1, p5, p6⟩
  have HT : Hid (∀ T W, TwoS (boxed w bt bm a) X Y bt bm room S T W → Calls Try.prog 15 #[.pointer (some ⟨bt, 0, none⟩), .string a.path, .string a.text] W fun r W' => r = .returned (.int .i64 c) ∧ TwoS (boxed w bt bm a) X Y bt bm room S1 T W') := by
    intro T W h
    rw [hc, hS1]
    exact h.doT fun X' h' => write_tree bt X' a.path a.text room S W h' (hg.ok (by omega)) (by have := ha.path1; omega) (by have := ha.text1; omega)
  have HR : Hid (∀ T W, TwoS (boxed w bt bm a) X Y bt bm room T T0 W → Calls Try.prog 41 #[.pointer (some ⟨bm, 0, none⟩), .string a.path, .string a.text] W fun r W' => r = .returned (.int .i64 d) ∧ TwoS (boxed w bt bm a) X Y bt bm room T T1 W') := by
    intro T W h
    rw [hd0, hT1]
    exact h.doR fun Y' h' => rWrite_good bm Y' a.path a.text room n T0 W h' hg2 (by omega) (by have := ha.path1; omega) (by have := ha.text1; omega)
  have HP : Hid (∀ W, Calls Try.prog 25 #[.int .i64 a.op, .int .i64 8] W fun e w' => e = .returned (.int .i64 0) ∧ W = w') := by
    intro W
    have := pick_any a.op ha.op 8 (by omega) (by omega) W
    rw [show pickZ a.op 8 = 0 from hk] at this
    exact this
  have HF : Hid (∀ W, TwoS (boxed w bt bm a) X Y bt bm room S1 T1 W → TwoS w X Y bt bm room S1 T1 W) := fun W h => h.behind hb
  rw [← hS1, ← hT1]
  obtain ⟨q0, q1, q2, q3, q4, q5, q6⟩ := h0.box hX hY
  obtain ⟨W0, hW0⟩ : ∃ W0, W0 = boxed w bt bm a := ⟨_, rfl⟩
  rw [← hW0] at h0 HB HT HR HF q0 q1 q2 q3 q4 q5 q6
  unfold boxed at hW0
  have HW0 := Lib.hid hW0
  obtain ⟨op, an, am, ap, at'⟩ := a
  simp only at HB HT HR HP q0 q1 q2 q3 q4 q5 q6
  clear ht hr hd hg hg2 hn ha hk hX hY hS hS2 hc hS1 hd0 hT1 hb hW0
  go_enter Try.func17, Try.ntmps17
  go_wp2_with (first | (go_at_call 25; rw [← HW0.out]; refine (HP.out _).mono ?_; rintro e w1 ⟨rfl, rfl⟩))
  have h0d : TwoS W0 X Y bt bm room S T0 W0.drew := h0.below (below_drew (Below.refl _ _))
  go_region_held3 (fun W => W.cell? ⟨w.heap.size, 0, none⟩ = some (.pointer (some ⟨bt, 0, none⟩)) ∧ W.cell? ⟨w.heap.size, 1, none⟩ = some (.pointer (some ⟨bm, 0, none⟩)) ∧ W.cell? ⟨w.heap.size + 1, 3, none⟩ = some (.string ap) ∧ W.cell? ⟨w.heap.size + 1, 4, none⟩ = some (.string at'))
    (first | exact HB.out _ _ _ (by assumption))
    (first
      | (go_at_call 15; refine (HT.out _ _ (by assumption)).mono ?_; rintro r w5 ⟨rfl, hcr5⟩)
      | (go_at_call 41; refine (HR.out _ _ (by assumption)).mono ?_; rintro r w6 ⟨rfl, hcr6⟩))
  all_goals (
    go_wp2
    go_ret
    exact ⟨⟨_, rfl⟩, HF.out _ (by assumption)⟩)

set_option maxRecDepth 100000 in
set_option maxHeartbeats 4000000 in
theorem doesb_1 (X Y : Nat → Prop) (bt bm : Nat) (room : Int) (n : Nat) (S T0 : St) (a : ActV) (w : World) (ht : TreeS w X bt room S) (hr : RefS w Y bm room T0) (hd : Disj X Y) (hg : Good room n S) (hg2 : Good room n T0) (hn : n < 268435456) (ha : ActOk a) (hk : a.k = 1) :
    Calls Try.prog 17 #[.agg #[.pointer (some ⟨bt, 0, none⟩), .pointer (some ⟨bm, 0, none⟩)], .agg #[.int .i64 a.op, .int .i64 a.n, .int .i64 a.m, .string a.path, .string a.text]] w fun e w' => (∃ z, e = .returned (.bool z)) ∧ TwoS w X Y bt bm room (actS room S a) (actS room T0 a) w' := by
  have hX := TreeR.lt ht
  have hY := hr.lt
  have hS : actS room S a = (opW room S a.path.data.toList a.text.data.toList).2 := by unfold actS; rw [hk]; rfl
  have hS2 : actS room T0 a = (opW room T0 a.path.data.toList a.text.data.toList).2 := by unfold actS; rw [hk]; rfl
  rw [hS, hS2]
  obtain ⟨c, hc⟩ : ∃ c, c = (opW room S a.path.data.toList a.text.data.toList).1 := ⟨_, rfl⟩
  obtain ⟨S1, hS1⟩ : ∃ S1, S1 = (opW room S a.path.data.toList a.text.data.toList).2 := ⟨_, rfl⟩
  obtain ⟨d, hd0⟩ : ∃ d, d = (opW room T0 a.path.data.toList a.text.data.toList).1 := ⟨_, rfl⟩
  obtain ⟨T1, hT1⟩ : ∃ T1, T1 = (opW room T0 a.path.data.toList a.text.data.toList).2 := ⟨_, rfl⟩
  have hb := boxed_below w bt bm a
  have h0 : TwoS (boxed w bt bm a) X Y bt bm room S T0 (boxed w bt bm a) := TwoS.start (TreeR.below ht hb) (hr.below hb) hd
  have HB : Hid (∀ U T W, TwoS (boxed w bt bm a) X Y bt bm room U T W → W.cell? ⟨w.heap.size, 0, none⟩ = some (.pointer (some ⟨bt, 0, none⟩)) ∧ W.cell? ⟨w.heap.size, 1, none⟩ = some (.pointer (some ⟨bm, 0, none⟩)) ∧ W.cell? ⟨w.heap.size + 1, 3, none⟩ = some (.string a.path) ∧ W.cell? ⟨w.heap.size + 1, 4, none⟩ = some (.string a.text)) := fun U T W h => by
    obtain ⟨p0, p1, p2, p3, p4, p5, p6⟩ := h.box hX hY
    exact ⟨p0, p1, p5, p6⟩
  have HT : Hid (∀ T W, TwoS (boxed w bt bm a) X Y bt bm room S T W → Calls Try.prog 15 #[.pointer (some ⟨bt, 0, none⟩), .string a.path, .string a.text] W fun r W' => r = .returned (.int .i64 c) ∧ TwoS (boxed w bt bm a) X Y bt bm room S1 T W') := by
    intro T W h
    rw [hc, hS1]
    exact h.doT fun X' h' => write_tree bt X' a.path a.text room S W h' (hg.ok (by omega)) (by have := ha.path1; omega) (by have := ha.text1; omega)
  have HR : Hid (∀ T W, TwoS (boxed w bt bm a) X Y bt bm room T T0 W → Calls Try.prog 41 #[.pointer (some ⟨bm, 0, none⟩), .string a.path, .string a.text] W fun r W' => r = .returned (.int .i64 d) ∧ TwoS (boxed w bt bm a) X Y bt bm room T T1 W') := by
    intro T W h
    rw [hd0, hT1]
    exact h.doR fun Y' h' => rWrite_good bm Y' a.path a.text room n T0 W h' hg2 (by omega) (by have := ha.path1; omega) (by have := ha.text1; omega)
  have HP : Hid (∀ W, Calls Try.prog 25 #[.int .i64 a.op, .int .i64 8] W fun e w' => e = .returned (.int .i64 1) ∧ W = w') := by
    intro W
    have := pick_any a.op ha.op 8 (by omega) (by omega) W
    rw [show pickZ a.op 8 = 1 from hk] at this
    exact this
  have HF : Hid (∀ W, TwoS (boxed w bt bm a) X Y bt bm room S1 T1 W → TwoS w X Y bt bm room S1 T1 W) := fun W h => h.behind hb
  rw [← hS1, ← hT1]
  obtain ⟨q0, q1, q2, q3, q4, q5, q6⟩ := h0.box hX hY
  obtain ⟨W0, hW0⟩ : ∃ W0, W0 = boxed w bt bm a := ⟨_, rfl⟩
  rw [← hW0] at h0 HB HT HR HF q0 q1 q2 q3 q4 q5 q6
  unfold boxed at hW0
  have HW0 := Lib.hid hW0
  obtain ⟨op, an, am, ap, at'⟩ := a
  simp only at HB HT HR HP q0 q1 q2 q3 q4 q5 q6
  clear ht hr hd hg hg2 hn ha hk hX hY hS hS2 hc hS1 hd0 hT1 hb hW0
  go_enter Try.func17, Try.ntmps17
  go_wp2_with (first | (go_at_call 25; rw [← HW0.out]; refine (HP.out _).mono ?_; rintro e w1 ⟨rfl, rfl⟩))
  have h0d : TwoS W0 X Y bt bm room S T0 W0.drew := h0.below (below_drew (Below.refl _ _))
  go_region_held3 (fun W => W.cell? ⟨w.heap.size, 0, none⟩ = some (.pointer (some ⟨bt, 0, none⟩)) ∧ W.cell? ⟨w.heap.size, 1, none⟩ = some (.pointer (some ⟨bm, 0, none⟩)) ∧ W.cell? ⟨w.heap.size + 1, 3, none⟩ = some (.string ap) ∧ W.cell? ⟨w.heap.size + 1, 4, none⟩ = some (.string at'))
    (first | exact HB.out _ _ _ (by assumption))
    (first
      | (go_at_call 15; refine (HT.out _ _ (by assumption)).mono ?_; rintro r w5 ⟨rfl, hcr5⟩)
      | (go_at_call 41; refine (HR.out _ _ (by assumption)).mono ?_; rintro r w6 ⟨rfl, hcr6⟩))
  all_goals (
    go_wp2
    go_ret
    exact ⟨⟨_, rfl⟩, HF.out _ (by assumption)⟩)

set_option maxRecDepth 100000 in
set_option maxHeartbeats 4000000 in
theorem doesb_2 (X Y : Nat → Prop) (bt bm : Nat) (room : Int) (n : Nat) (S T0 : St) (a : ActV) (w : World) (ht : TreeS w X bt room S) (hr : RefS w Y bm room T0) (hd : Disj X Y) (hg : Good room n S) (hg2 : Good room n T0) (hn : n < 268435456) (ha : ActOk a) (hk : a.k = 2) :
    Calls Try.prog 17 #[.agg #[.pointer (some ⟨bt, 0, none⟩), .pointer (some ⟨bm, 0, none⟩)], .agg #[.int .i64 a.op, .int .i64 a.n, .int .i64 a.m, .string a.path, .string a.text]] w fun e w' => (∃ z, e = .returned (.bool z)) ∧ TwoS w X Y bt bm room (actS room S a) (actS room T0 a) w' := by
  have hX := TreeR.lt ht
  have hY := hr.lt
  have hS : actS room S a = (opA room S a.path.data.toList a.text.data.toList).2 := by unfold actS; rw [hk]; rfl
  have hS2 : actS room T0 a = (opA room T0 a.path.data.toList a.text.data.toList).2 := by unfold actS; rw [hk]; rfl
  rw [hS, hS2]
  obtain ⟨c, hc⟩ : ∃ c, c = (opA room S a.path.data.toList a.text.data.toList).1 := ⟨_, rfl⟩
  obtain ⟨S1, hS1⟩ : ∃ S1, S1 = (opA room S a.path.data.toList a.text.data.toList).2 := ⟨_, rfl⟩
  obtain ⟨d, hd0⟩ : ∃ d, d = (opA room T0 a.path.data.toList a.text.data.toList).1 := ⟨_, rfl⟩
  obtain ⟨T1, hT1⟩ : ∃ T1, T1 = (opA room T0 a.path.data.toList a.text.data.toList).2 := ⟨_, rfl⟩
  have hb := boxed_below w bt bm a
  have h0 : TwoS (boxed w bt bm a) X Y bt bm room S T0 (boxed w bt bm a) := TwoS.start (TreeR.below ht hb) (hr.below hb) hd
  have HB : Hid (∀ U T W, TwoS (boxed w bt bm a) X Y bt bm room U T W → W.cell? ⟨w.heap.size, 0, none⟩ = some (.pointer (some ⟨bt, 0, none⟩)) ∧ W.cell? ⟨w.heap.size, 1, none⟩ = some (.pointer (some ⟨bm, 0, none⟩)) ∧ W.cell? ⟨w.heap.size + 1, 3, none⟩ = some (.string a.path) ∧ W.cell? ⟨w.heap.size + 1, 4, none⟩ = some (.string a.text)) := fun U T W h => by
    obtain ⟨p0, p1, p2, p3, p4, p5, p6⟩ := h.box hX hY
    exact ⟨p0, p1, p5, p6⟩
  have HT : Hid (∀ T W, TwoS (boxed w bt bm a) X Y bt bm room S T W → Calls Try.prog 29 #[.pointer (some ⟨bt, 0, none⟩), .string a.path, .string a.text] W fun r W' => r = .returned (.int .i64 c) ∧ TwoS (boxed w bt bm a) X Y bt bm room S1 T W') := by
    intro T W h
    rw [hc, hS1]
    exact h.doT fun X' h' => append_tree bt X' a.path a.text room S W h' (hg.ok (by omega)) (by have := ha.path1; omega) (by have := ha.text1; omega) (hg.tx _)
  have HR : Hid (∀ T W, TwoS (boxed w bt bm a) X Y bt bm room T T0 W → Calls Try.prog 42 #[.pointer (some ⟨bm, 0, none⟩), .string a.path, .string a.text] W fun r W' => r = .returned (.int .i64 d) ∧ TwoS (boxed w bt bm a) X Y bt bm room T T1 W') := by
    intro T W h
    rw [hd0, hT1]
    exact h.doR fun Y' h' => rAppend_good bm Y' a.path a.text room n T0 W h' hg2 (by omega) (by have := ha.path1; omega) (by have := ha.text1; omega)
  have HP : Hid (∀ W, Calls Try.prog 25 #[.int .i64 a.op, .int .i64 8] W fun e w' => e = .returned (.int .i64 2) ∧ W = w') := by
    intro W
    have := pick_any a.op ha.op 8 (by omega) (by omega) W
    rw [show pickZ a.op 8 = 2 from hk] at this
    exact this
  have HF : Hid (∀ W, TwoS (boxed w bt bm a) X Y bt bm room S1 T1 W → TwoS w X Y bt bm room S1 T1 W) := fun W h => h.behind hb
  rw [← hS1, ← hT1]
  obtain ⟨q0, q1, q2, q3, q4, q5, q6⟩ := h0.box hX hY
  obtain ⟨W0, hW0⟩ : ∃ W0, W0 = boxed w bt bm a := ⟨_, rfl⟩
  rw [← hW0] at h0 HB HT HR HF q0 q1 q2 q3 q4 q5 q6
  unfold boxed at hW0
  have HW0 := Lib.hid hW0
  obtain ⟨op, an, am, ap, at'⟩ := a
  simp only at HB HT HR HP q0 q1 q2 q3 q4 q5 q6
  clear ht hr hd hg hg2 hn ha hk hX hY hS hS2 hc hS1 hd0 hT1 hb hW0
  go_enter Try.func17, Try.ntmps17
  go_wp2_with (first | (go_at_call 25; rw [← HW0.out]; refine (HP.out _).mono ?_; rintro e w1 ⟨rfl, rfl⟩))
  have h0d : TwoS W0 X Y bt bm room S T0 W0.drew := h0.below (below_drew (Below.refl _ _))
  go_region_held3 (fun W => W.cell? ⟨w.heap.size, 0, none⟩ = some (.pointer (some ⟨bt, 0, none⟩)) ∧ W.cell? ⟨w.heap.size, 1, none⟩ = some (.pointer (some ⟨bm, 0, none⟩)) ∧ W.cell? ⟨w.heap.size + 1, 3, none⟩ = some (.string ap) ∧ W.cell? ⟨w.heap.size + 1, 4, none⟩ = some (.string at'))
    (first | exact HB.out _ _ _ (by assumption))
    (first
      | (go_at_call 29; refine (HT.out _ _ (by assumption)).mono ?_; rintro r w5 ⟨rfl, hcr5⟩)
      | (go_at_call 42; refine (HR.out _ _ (by assumption)).mono ?_; rintro r w6 ⟨rfl, hcr6⟩))
  all_goals (
    go_wp2
    go_ret
    exact ⟨⟨_, rfl⟩, HF.out _ (by assumption)⟩)

set_option maxRecDepth 100000 in
set_option maxHeartbeats 4000000 in
theorem doesb_3 (X Y : Nat → Prop) (bt bm : Nat) (room : Int) (n : Nat) (S T0 : St) (a : ActV) (w : World) (ht : TreeS w X bt room S) (hr : RefS w Y bm room T0) (hd : Disj X Y) (hg : Good room n S) (hg2 : Good room n T0) (hn : n < 268435456) (ha : ActOk a) (hk : a.k = 3) :
    Calls Try.prog 17 #[.agg #[.pointer (some ⟨bt, 0, none⟩), .pointer (some ⟨bm, 0, none⟩)], .agg #[.int .i64 a.op, .int .i64 a.n, .int .i64 a.m, .string a.path, .string a.text]] w fun e w' => (∃ z, e = .returned (.bool z)) ∧ TwoS w X Y bt bm room (actS room S a) (actS room T0 a) w' := by
  have hX := TreeR.lt ht
  have hY := hr.lt
  have hS : actS room S a = (opA room S a.path.data.toList a.text.data.toList).2 := by unfold actS; rw [hk]; rfl
  have hS2 : actS room T0 a = (opA room T0 a.path.data.toList a.text.data.toList).2 := by unfold actS; rw [hk]; rfl
  rw [hS, hS2]
  obtain ⟨c, hc⟩ : ∃ c, c = (opA room S a.path.data.toList a.text.data.toList).1 := ⟨_, rfl⟩
  obtain ⟨S1, hS1⟩ : ∃ S1, S1 = (opA room S a.path.data.toList a.text.data.toList).2 := ⟨_, rfl⟩
  obtain ⟨d, hd0⟩ : ∃ d, d = (opA room T0 a.path.data.toList a.text.data.toList).1 := ⟨_, rfl⟩
  obtain ⟨T1, hT1⟩ : ∃ T1, T1 = (opA room T0 a.path.data.toList a.text.data.toList).2 := ⟨_, rfl⟩
  have hb := boxed_below w bt bm a
  have h0 : TwoS (boxed w bt bm a) X Y bt bm room S T0 (boxed w bt bm a) := TwoS.start (TreeR.below ht hb) (hr.below hb) hd
  have HB : Hid (∀ U T W, TwoS (boxed w bt bm a) X Y bt bm room U T W → W.cell? ⟨w.heap.size, 0, none⟩ = some (.pointer (some ⟨bt, 0, none⟩)) ∧ W.cell? ⟨w.heap.size, 1, none⟩ = some (.pointer (some ⟨bm, 0, none⟩)) ∧ W.cell? ⟨w.heap.size + 1, 3, none⟩ = some (.string a.path) ∧ W.cell? ⟨w.heap.size + 1, 4, none⟩ = some (.string a.text)) := fun U T W h => by
    obtain ⟨p0, p1, p2, p3, p4, p5, p6⟩ := h.box hX hY
    exact ⟨p0, p1, p5, p6⟩
  have HT : Hid (∀ T W, TwoS (boxed w bt bm a) X Y bt bm room S T W → Calls Try.prog 29 #[.pointer (some ⟨bt, 0, none⟩), .string a.path, .string a.text] W fun r W' => r = .returned (.int .i64 c) ∧ TwoS (boxed w bt bm a) X Y bt bm room S1 T W') := by
    intro T W h
    rw [hc, hS1]
    exact h.doT fun X' h' => append_tree bt X' a.path a.text room S W h' (hg.ok (by omega)) (by have := ha.path1; omega) (by have := ha.text1; omega) (hg.tx _)
  have HR : Hid (∀ T W, TwoS (boxed w bt bm a) X Y bt bm room T T0 W → Calls Try.prog 42 #[.pointer (some ⟨bm, 0, none⟩), .string a.path, .string a.text] W fun r W' => r = .returned (.int .i64 d) ∧ TwoS (boxed w bt bm a) X Y bt bm room T T1 W') := by
    intro T W h
    rw [hd0, hT1]
    exact h.doR fun Y' h' => rAppend_good bm Y' a.path a.text room n T0 W h' hg2 (by omega) (by have := ha.path1; omega) (by have := ha.text1; omega)
  have HP : Hid (∀ W, Calls Try.prog 25 #[.int .i64 a.op, .int .i64 8] W fun e w' => e = .returned (.int .i64 3) ∧ W = w') := by
    intro W
    have := pick_any a.op ha.op 8 (by omega) (by omega) W
    rw [show pickZ a.op 8 = 3 from hk] at this
    exact this
  have HF : Hid (∀ W, TwoS (boxed w bt bm a) X Y bt bm room S1 T1 W → TwoS w X Y bt bm room S1 T1 W) := fun W h => h.behind hb
  rw [← hS1, ← hT1]
  obtain ⟨q0, q1, q2, q3, q4, q5, q6⟩ := h0.box hX hY
  obtain ⟨W0, hW0⟩ : ∃ W0, W0 = boxed w bt bm a := ⟨_, rfl⟩
  rw [← hW0] at h0 HB HT HR HF q0 q1 q2 q3 q4 q5 q6
  unfold boxed at hW0
  have HW0 := Lib.hid hW0
  obtain ⟨op, an, am, ap, at'⟩ := a
  simp only at HB HT HR HP q0 q1 q2 q3 q4 q5 q6
  clear ht hr hd hg hg2 hn ha hk hX hY hS hS2 hc hS1 hd0 hT1 hb hW0
  go_enter Try.func17, Try.ntmps17
  go_wp2_with (first | (go_at_call 25; rw [← HW0.out]; refine (HP.out _).mono ?_; rintro e w1 ⟨rfl, rfl⟩))
  have h0d : TwoS W0 X Y bt bm room S T0 W0.drew := h0.below (below_drew (Below.refl _ _))
  go_region_held3 (fun W => W.cell? ⟨w.heap.size, 0, none⟩ = some (.pointer (some ⟨bt, 0, none⟩)) ∧ W.cell? ⟨w.heap.size, 1, none⟩ = some (.pointer (some ⟨bm, 0, none⟩)) ∧ W.cell? ⟨w.heap.size + 1, 3, none⟩ = some (.string ap) ∧ W.cell? ⟨w.heap.size + 1, 4, none⟩ = some (.string at'))
    (first | exact HB.out _ _ _ (by assumption))
    (first
      | (go_at_call 29; refine (HT.out _ _ (by assumption)).mono ?_; rintro r w5 ⟨rfl, hcr5⟩)
      | (go_at_call 42; refine (HR.out _ _ (by assumption)).mono ?_; rintro r w6 ⟨rfl, hcr6⟩))
  all_goals (
    go_wp2
    go_ret
    exact ⟨⟨_, rfl⟩, HF.out _ (by assumption)⟩)

set_option maxRecDepth 100000 in
set_option maxHeartbeats 4000000 in
theorem doesb_4 (X Y : Nat → Prop) (bt bm : Nat) (room : Int) (n : Nat) (S T0 : St) (a : ActV) (w : World) (ht : TreeS w X bt room S) (hr : RefS w Y bm room T0) (hd : Disj X Y) (hg : Good room n S) (hg2 : Good room n T0) (hn : n < 268435456) (ha : ActOk a) (hk : a.k = 4) :
    Calls Try.prog 17 #[.agg #[.pointer (some ⟨bt, 0, none⟩), .pointer (some ⟨bm, 0, none⟩)], .agg #[.int .i64 a.op, .int .i64 a.n, .int .i64 a.m, .string a.path, .string a.text]] w fun e w' => (∃ z, e = .returned (.bool z)) ∧ TwoS w X Y bt bm room (actS room S a) (actS room T0 a) w' := by
  have hX := TreeR.lt ht
  have hY := hr.lt
  have hS : actS room S a = (opR S a.path.data.toList).2 := by unfold actS; rw [hk]; rfl
  have hS2 : actS room T0 a = (opR T0 a.path.data.toList).2 := by unfold actS; rw [hk]; rfl
  rw [hS, hS2]
  obtain ⟨c, hc⟩ : ∃ c, c = (opR S a.path.data.toList).1 := ⟨_, rfl⟩
  obtain ⟨S1, hS1⟩ : ∃ S1, S1 = (opR S a.path.data.toList).2 := ⟨_, rfl⟩
  obtain ⟨d, hd0⟩ : ∃ d, d = (opR T0 a.path.data.toList).1 := ⟨_, rfl⟩
  obtain ⟨T1, hT1⟩ : ∃ T1, T1 = (opR T0 a.path.data.toList).2 := ⟨_, rfl⟩
  have hb := boxed_below w bt bm a
  have h0 : TwoS (boxed w bt bm a) X Y bt bm room S T0 (boxed w bt bm a) := TwoS.start (TreeR.below ht hb) (hr.below hb) hd
  have HB : Hid (∀ U T W, TwoS (boxed w bt bm a) X Y bt bm room U T W → W.cell? ⟨w.heap.size, 0, none⟩ = some (.pointer (some ⟨bt, 0, none⟩)) ∧ W.cell? ⟨w.heap.size, 1, none⟩ = some (.pointer (some ⟨bm, 0, none⟩)) ∧ W.cell? ⟨w.heap.size + 1, 3, none⟩ = some (.string a.path)) := fun U T W h => by
    obtain ⟨p0, p1, p2, p3, p4, p5, p6⟩ := h.box hX hY
    exact ⟨p0, p1, p5⟩
  have HT : Hid (∀ T W, TwoS (boxed w bt bm a) X Y bt bm room S T W → Calls Try.prog 21 #[.pointer (some ⟨bt, 0, none⟩), .string a.path] W fun r W' => r = .returned (.int .i64 c) ∧ TwoS (boxed w bt bm a) X Y bt bm room S1 T W') := by
    intro T W h
    rw [hc, hS1]
    exact h.doT fun X' h' => remove_tree bt X' a.path room S W h' (hg.ok (by omega)) (by have := ha.path1; omega)
  have HR : Hid (∀ T W, TwoS (boxed w bt bm a) X Y bt bm room T T0 W → Calls Try.prog 43 #[.pointer (some ⟨bm, 0, none⟩), .string a.path] W fun r W' => r = .returned (.int .i64 d) ∧ TwoS (boxed w bt bm a) X Y bt bm room T T1 W') := by
    intro T W h
    rw [hd0, hT1]
    exact h.doR fun Y' h' => rRemove_good bm Y' a.path room n T0 W h' hg2 (by omega)
  have HP : Hid (∀ W, Calls Try.prog 25 #[.int .i64 a.op, .int .i64 8] W fun e w' => e = .returned (.int .i64 4) ∧ W = w') := by
    intro W
    have := pick_any a.op ha.op 8 (by omega) (by omega) W
    rw [show pickZ a.op 8 = 4 from hk] at this
    exact this
  have HF : Hid (∀ W, TwoS (boxed w bt bm a) X Y bt bm room S1 T1 W → TwoS w X Y bt bm room S1 T1 W) := fun W h => h.behind hb
  rw [← hS1, ← hT1]
  obtain ⟨q0, q1, q2, q3, q4, q5, q6⟩ := h0.box hX hY
  obtain ⟨W0, hW0⟩ : ∃ W0, W0 = boxed w bt bm a := ⟨_, rfl⟩
  rw [← hW0] at h0 HB HT HR HF q0 q1 q2 q3 q4 q5 q6
  unfold boxed at hW0
  have HW0 := Lib.hid hW0
  obtain ⟨op, an, am, ap, at'⟩ := a
  simp only at HB HT HR HP q0 q1 q2 q3 q4 q5 q6
  clear ht hr hd hg hg2 hn ha hk hX hY hS hS2 hc hS1 hd0 hT1 hb hW0
  go_enter Try.func17, Try.ntmps17
  go_wp2_with (first | (go_at_call 25; rw [← HW0.out]; refine (HP.out _).mono ?_; rintro e w1 ⟨rfl, rfl⟩))
  have h0d : TwoS W0 X Y bt bm room S T0 W0.drew := h0.below (below_drew (Below.refl _ _))
  go_region_held3 (fun W => W.cell? ⟨w.heap.size, 0, none⟩ = some (.pointer (some ⟨bt, 0, none⟩)) ∧ W.cell? ⟨w.heap.size, 1, none⟩ = some (.pointer (some ⟨bm, 0, none⟩)) ∧ W.cell? ⟨w.heap.size + 1, 3, none⟩ = some (.string ap))
    (first | exact HB.out _ _ _ (by assumption))
    (first
      | (go_at_call 21; refine (HT.out _ _ (by assumption)).mono ?_; rintro r w5 ⟨rfl, hcr5⟩)
      | (go_at_call 43; refine (HR.out _ _ (by assumption)).mono ?_; rintro r w6 ⟨rfl, hcr6⟩))
  all_goals (
    go_wp2
    go_ret
    exact ⟨⟨_, rfl⟩, HF.out _ (by assumption)⟩)

set_option maxRecDepth 100000 in
set_option maxHeartbeats 4000000 in
theorem doesb_5 (X Y : Nat → Prop) (bt bm : Nat) (room : Int) (n : Nat) (S T0 : St) (a : ActV) (w : World) (ht : TreeS w X bt room S) (hr : RefS w Y bm room T0) (hd : Disj X Y) (hg : Good room n S) (hg2 : Good room n T0) (hn : n < 268435456) (ha : ActOk a) (hk : a.k = 5) :
    Calls Try.prog 17 #[.agg #[.pointer (some ⟨bt, 0, none⟩), .pointer (some ⟨bm, 0, none⟩)], .agg #[.int .i64 a.op, .int .i64 a.n, .int .i64 a.m, .string a.path, .string a.text]] w fun e w' => (∃ z, e = .returned (.bool z)) ∧ TwoS w X Y bt bm room (actS room S a) (actS room T0 a) w' := by
  have hX := TreeR.lt ht
  have hY := hr.lt
  have hS : actS room S a = (opN S a.path.data.toList a.text.data.toList).2 := by unfold actS; rw [hk]; rfl
  have hS2 : actS room T0 a = (opN T0 a.path.data.toList a.text.data.toList).2 := by unfold actS; rw [hk]; rfl
  rw [hS, hS2]
  obtain ⟨c, hc⟩ : ∃ c, c = (opN S a.path.data.toList a.text.data.toList).1 := ⟨_, rfl⟩
  obtain ⟨S1, hS1⟩ : ∃ S1, S1 = (opN S a.path.data.toList a.text.data.toList).2 := ⟨_, rfl⟩
  obtain ⟨d, hd0⟩ : ∃ d, d = (opN T0 a.path.data.toList a.text.data.toList).1 := ⟨_, rfl⟩
  obtain ⟨T1, hT1⟩ : ∃ T1, T1 = (opN T0 a.path.data.toList a.text.data.toList).2 := ⟨_, rfl⟩
  have hb := boxed_below w bt bm a
  have h0 : TwoS (boxed w bt bm a) X Y bt bm room S T0 (boxed w bt bm a) := TwoS.start (TreeR.below ht hb) (hr.below hb) hd
  have HB : Hid (∀ U T W, TwoS (boxed w bt bm a) X Y bt bm room U T W → W.cell? ⟨w.heap.size, 0, none⟩ = some (.pointer (some ⟨bt, 0, none⟩)) ∧ W.cell? ⟨w.heap.size, 1, none⟩ = some (.pointer (some ⟨bm, 0, none⟩)) ∧ W.cell? ⟨w.heap.size + 1, 3, none⟩ = some (.string a.path) ∧ W.cell? ⟨w.heap.size + 1, 4, none⟩ = some (.string a.text)) := fun U T W h => by
    obtain ⟨p0, p1, p2, p3, p4, p5, p6⟩ := h.box hX hY
    exact ⟨p0, p1, p5, p6⟩
  have HT : Hid (∀ T W, TwoS (boxed w bt bm a) X Y bt bm room S T W → Calls Try.prog 23 #[.pointer (some ⟨bt, 0, none⟩), .string a.path, .string a.text] W fun r W' => r = .returned (.int .i64 c) ∧ TwoS (boxed w bt bm a) X Y bt bm room S1 T W') := by
    intro T W h
    rw [hc, hS1]
    exact h.doT fun X' h' => rename_tree bt X' a.path a.text room S W h' (hg.ok (by omega)) (by have := ha.path1; omega) (by have := ha.text1; omega)
  have HR : Hid (∀ T W, TwoS (boxed w bt bm a) X Y bt bm room T T0 W → Calls Try.prog 44 #[.pointer (some ⟨bm, 0, none⟩), .string a.path, .string a.text] W fun r W' => r = .returned (.int .i64 d) ∧ TwoS (boxed w bt bm a) X Y bt bm room T T1 W') := by
    intro T W h
    rw [hd0, hT1]
    exact h.doR fun Y' h' => rRename_good bm Y' a.path a.text room n T0 W h' hg2 (by omega) (by have := ha.text1; omega)
  have HP : Hid (∀ W, Calls Try.prog 25 #[.int .i64 a.op, .int .i64 8] W fun e w' => e = .returned (.int .i64 5) ∧ W = w') := by
    intro W
    have := pick_any a.op ha.op 8 (by omega) (by omega) W
    rw [show pickZ a.op 8 = 5 from hk] at this
    exact this
  have HF : Hid (∀ W, TwoS (boxed w bt bm a) X Y bt bm room S1 T1 W → TwoS w X Y bt bm room S1 T1 W) := fun W h => h.behind hb
  rw [← hS1, ← hT1]
  obtain ⟨q0, q1, q2, q3, q4, q5, q6⟩ := h0.box hX hY
  obtain ⟨W0, hW0⟩ : ∃ W0, W0 = boxed w bt bm a := ⟨_, rfl⟩
  rw [← hW0] at h0 HB HT HR HF q0 q1 q2 q3 q4 q5 q6
  unfold boxed at hW0
  have HW0 := Lib.hid hW0
  obtain ⟨op, an, am, ap, at'⟩ := a
  simp only at HB HT HR HP q0 q1 q2 q3 q4 q5 q6
  clear ht hr hd hg hg2 hn ha hk hX hY hS hS2 hc hS1 hd0 hT1 hb hW0
  go_enter Try.func17, Try.ntmps17
  go_wp2_with (first | (go_at_call 25; rw [← HW0.out]; refine (HP.out _).mono ?_; rintro e w1 ⟨rfl, rfl⟩))
  have h0d : TwoS W0 X Y bt bm room S T0 W0.drew := h0.below (below_drew (Below.refl _ _))
  go_region_held3 (fun W => W.cell? ⟨w.heap.size, 0, none⟩ = some (.pointer (some ⟨bt, 0, none⟩)) ∧ W.cell? ⟨w.heap.size, 1, none⟩ = some (.pointer (some ⟨bm, 0, none⟩)) ∧ W.cell? ⟨w.heap.size + 1, 3, none⟩ = some (.string ap) ∧ W.cell? ⟨w.heap.size + 1, 4, none⟩ = some (.string at'))
    (first | exact HB.out _ _ _ (by assumption))
    (first
      | (go_at_call 23; refine (HT.out _ _ (by assumption)).mono ?_; rintro r w5 ⟨rfl, hcr5⟩)
      | (go_at_call 44; refine (HR.out _ _ (by assumption)).mono ?_; rintro r w6 ⟨rfl, hcr6⟩))
  all_goals (
    go_wp2
    go_ret
    exact ⟨⟨_, rfl⟩, HF.out _ (by assumption)⟩)

/-- An act that is no sync and no crash, done to both. -/
theorem doesb_any (X Y : Nat → Prop) (bt bm : Nat) (room : Int) (n : Nat) (S T : St) (a : ActV) (w : World) (ht : TreeS w X bt room S) (hr : RefS w Y bm room T) (hd : Disj X Y) (hg : Good room n S) (hg2 : Good room n T) (hn : n < 268435456) (ha : ActOk a) (hk : a.k < 6) :
    Calls Try.prog 17 #[.agg #[.pointer (some ⟨bt, 0, none⟩), .pointer (some ⟨bm, 0, none⟩)], .agg (actCells a).toArray] w fun e w' => (∃ z, e = .returned (.bool z)) ∧ TwoS w X Y bt bm room (actS room S a) (actS room T a) w' := by
  rcases (show a.k = 0 ∨ a.k = 1 ∨ a.k = 2 ∨ a.k = 3 ∨ a.k = 4 ∨ a.k = 5 by omega) with h | h | h | h | h | h
  · exact doesb_0 X Y bt bm room n S T a w ht hr hd hg hg2 hn ha h
  · exact doesb_1 X Y bt bm room n S T a w ht hr hd hg hg2 hn ha h
  · exact doesb_2 X Y bt bm room n S T a w ht hr hd hg hg2 hn ha h
  · exact doesb_3 X Y bt bm room n S T a w ht hr hd hg hg2 hn ha h
  · exact doesb_4 X Y bt bm room n S T a w ht hr hd hg hg2 hn ha h
  · exact doesb_5 X Y bt bm room n S T a w ht hr hd hg hg2 hn ha h

end Go.Proofs.Ytginlknlkbhgaaa
