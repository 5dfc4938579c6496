/-
  An act, done to the program's tree alone.
-/
import Derived.Test.YtginlknlkbhgaaaFLaw1
import Derived.Test.YtginlknlkbhgaaaFCrash2
namespace Go.Proofs.Ytginlknlkbhgaaa
open Go.RowKit Go.Shelf Go.Maps

set_option maxRecDepth 100000 in
set_option maxHeartbeats 4000000 in
theorem acts_0 (X : Nat → Prop) (bt bm : Nat) (room : Int) (n : Nat) (S : St) (a : ActV) (w : World) (ht : TreeS w X bt room S) (hg : Good room n S) (hn : n < 268435456) (ha : ActOk a) (hk : a.k = 0) :
    Calls Try.prog 31 #[.agg #[.pointer (some ⟨bt, 0, none⟩), .pointer (some ⟨bm, 0, none⟩)], .agg #[.int .i64 a.op, .int .i64 a.n, .int .i64 a.m, .string a.path, .string a.text]] w fun e w' => e = .returned (.tuple #[]) ∧ StepS w X bt room (actS room S a) w' := by
  have hS : actS room S a = (opW room S a.path.data.toList a.text.data.toList).2 := by unfold actS; rw [hk]; rfl
  rw [hS]
  obtain ⟨S1, hS1⟩ : ∃ S1, S1 = (opW room S a.path.data.toList a.text.data.toList).2 := ⟨_, rfl⟩
  have hb := boxed_below w bt bm a
  obtain ⟨q0, q1, q2, q3, q4, q5, q6⟩ := boxC_of (boxed_cells w bt bm a).1 (boxed_cells w bt bm a).2
  have h0 := TreeR.below ht hb
  have HT : Hid (Calls Try.prog 15 #[.pointer (some ⟨bt, 0, none⟩), .string a.path, .string a.text] (boxed w bt bm a) fun r W' => r = .returned (.int .i64 (opW room S a.path.data.toList a.text.data.toList).1) ∧ StepS w X bt room S1 W') := by
    rw [hS1]
    exact (write_tree bt X a.path a.text room S _ h0 (hg.ok (by omega)) (by have := ha.path1; omega) (by have := ha.text1; omega)).mono fun _ _ q => ⟨q.1, StepS.behind hb q.2⟩
  have HP : Hid (∀ W, Calls Try.prog 25 #[.int .i64 a.op, .int .i64 8] W fun e w' => e = .returned (.int .i64 0) ∧ W = w') := by
    intro W
    have := pick_any a.op ha.op 8 (by omega) (by omega) W
    rw [show pickZ a.op 8 = 0 from hk] at this
    exact this
  rw [← hS1]
  obtain ⟨W0, hW0⟩ : ∃ W0, W0 = boxed w bt bm a := ⟨_, rfl⟩
  rw [← hW0] at HT q0 q1 q2 q3 q4 q5 q6
  unfold boxed at hW0
  have HW0 := Lib.hid hW0
  obtain ⟨op, an, am, ap, at'⟩ := a
  simp only at HT HP q0 q1 q2 q3 q4 q5 q6
  clear ht hg hn ha hk hS hS1 hb hW0 h0
  go_enter Try.func31, Try.ntmps31
  go_wp2_with (first
    | (go_at_call 25; rw [← HW0.out]; refine (HP.out _).mono ?_; rintro e w1 ⟨rfl, rfl⟩)
    | (go_at_call 15; refine (HT.out).mono ?_; rintro r w5 ⟨rfl, hcr5⟩))
  go_end0
  exact ⟨rfl, hcr5⟩

set_option maxRecDepth 100000 in
set_option maxHeartbeats 4000000 in
theorem acts_1 (X : Nat → Prop) (bt bm : Nat) (room : Int) (n : Nat) (S : St) (a : ActV) (w : World) (ht : TreeS w X bt room S) (hg : Good room n S) (hn : n < 268435456) (ha : ActOk a) (hk : a.k = 1) :
    Calls Try.prog 31 #[.agg #[.pointer (some ⟨bt, 0, none⟩), .pointer (some ⟨bm, 0, none⟩)], .agg #[.int .i64 a.op, .int .i64 a.n, .int .i64 a.m, .string a.path, .string a.text]] w fun e w' => e = .returned (.tuple #[]) ∧ StepS w X bt room (actS room S a) w' := by
  have hS : actS room S a = (opW room S a.path.data.toList a.text.data.toList).2 := by unfold actS; rw [hk]; rfl
  rw [hS]
  obtain ⟨S1, hS1⟩ : ∃ S1, S1 = (opW room S a.path.data.toList a.text.data.toList).2 := ⟨_, rfl⟩
  have hb := boxed_below w bt bm a
  obtain ⟨q0, q1, q2, q3, q4, q5, q6⟩ := boxC_of (boxed_cells w bt bm a).1 (boxed_cells w bt bm a).2
  have h0 := TreeR.below ht hb
  have HT : Hid (Calls Try.prog 15 #[.pointer (some ⟨bt, 0, none⟩), .string a.path, .string a.text] (boxed w bt bm a) fun r W' => r = .returned (.int .i64 (opW room S a.path.data.toList a.text.data.toList).1) ∧ StepS w X bt room S1 W') := by
    rw [hS1]
    exact (write_tree bt X a.path a.text room S _ h0 (hg.ok (by omega)) (by have := ha.path1; omega) (by have := ha.text1; omega)).mono fun _ _ q => ⟨q.1, StepS.behind hb q.2⟩
  have HP : Hid (∀ W, Calls Try.prog 25 #[.int .i64 a.op, .int .i64 8] W fun e w' => e = .returned (.int .i64 1) ∧ W = w') := by
    intro W
    have := pick_any a.op ha.op 8 (by omega) (by omega) W
    rw [show pickZ a.op 8 = 1 from hk] at this
    exact this
  rw [← hS1]
  obtain ⟨W0, hW0⟩ : ∃ W0, W0 = boxed w bt bm a := ⟨_, rfl⟩
  rw [← hW0] at HT q0 q1 q2 q3 q4 q5 q6
  unfold boxed at hW0
  have HW0 := Lib.hid hW0
  obtain ⟨op, an, am, ap, at'⟩ := a
  simp only at HT HP q0 q1 q2 q3 q4 q5 q6
  clear ht hg hn ha hk hS hS1 hb hW0 h0
  go_enter Try.func31, Try.ntmps31
  go_wp2_with (first
    | (go_at_call 25; rw [← HW0.out]; refine (HP.out _).mono ?_; rintro e w1 ⟨rfl, rfl⟩)
    | (go_at_call 15; refine (HT.out).mono ?_; rintro r w5 ⟨rfl, hcr5⟩))
  go_end0
  exact ⟨rfl, hcr5⟩

set_option maxRecDepth 100000 in
set_option maxHeartbeats 4000000 in
theorem acts_2 (X : Nat → Prop) (bt bm : Nat) (room : Int) (n : Nat) (S : St) (a : ActV) (w : World) (ht : TreeS w X bt room S) (hg : Good room n S) (hn : n < 268435456) (ha : ActOk a) (hk : a.k = 2) :
    Calls Try.prog 31 #[.agg #[.pointer (some ⟨bt, 0, none⟩), .pointer (some ⟨bm, 0, none⟩)], .agg #[.int .i64 a.op, .int .i64 a.n, .int .i64 a.m, .string a.path, .string a.text]] w fun e w' => e = .returned (.tuple #[]) ∧ StepS w X bt room (actS room S a) w' := by
  have hS : actS room S a = (opA room S a.path.data.toList a.text.data.toList).2 := by unfold actS; rw [hk]; rfl
  rw [hS]
  obtain ⟨S1, hS1⟩ : ∃ S1, S1 = (opA room S a.path.data.toList a.text.data.toList).2 := ⟨_, rfl⟩
  have hb := boxed_below w bt bm a
  obtain ⟨q0, q1, q2, q3, q4, q5, q6⟩ := boxC_of (boxed_cells w bt bm a).1 (boxed_cells w bt bm a).2
  have h0 := TreeR.below ht hb
  have HT : Hid (Calls Try.prog 29 #[.pointer (some ⟨bt, 0, none⟩), .string a.path, .string a.text] (boxed w bt bm a) fun r W' => r = .returned (.int .i64 (opA room S a.path.data.toList a.text.data.toList).1) ∧ StepS w X bt room S1 W') := by
    rw [hS1]
    exact (append_tree bt X a.path a.text room S _ h0 (hg.ok (by omega)) (by have := ha.path1; omega) (by have := ha.text1; omega) (hg.tx _)).mono fun _ _ q => ⟨q.1, StepS.behind hb q.2⟩
  have HP : Hid (∀ W, Calls Try.prog 25 #[.int .i64 a.op, .int .i64 8] W fun e w' => e = .returned (.int .i64 2) ∧ W = w') := by
    intro W
    have := pick_any a.op ha.op 8 (by omega) (by omega) W
    rw [show pickZ a.op 8 = 2 from hk] at this
    exact this
  rw [← hS1]
  obtain ⟨W0, hW0⟩ : ∃ W0, W0 = boxed w bt bm a := ⟨_, rfl⟩
  rw [← hW0] at HT q0 q1 q2 q3 q4 q5 q6
  unfold boxed at hW0
  have HW0 := Lib.hid hW0
  obtain ⟨op, an, am, ap, at'⟩ := a
  simp only at HT HP q0 q1 q2 q3 q4 q5 q6
  clear ht hg hn ha hk hS hS1 hb hW0 h0
  go_enter Try.func31, Try.ntmps31
  go_wp2_with (first
    | (go_at_call 25; rw [← HW0.out]; refine (HP.out _).mono ?_; rintro e w1 ⟨rfl, rfl⟩)
    | (go_at_call 29; refine (HT.out).mono ?_; rintro r w5 ⟨rfl, hcr5⟩))
  go_end0
  exact ⟨rfl, hcr5⟩

set_option maxRecDepth 100000 in
set_option maxHeartbeats 4000000 in
theorem acts_3 (X : Nat → Prop) (bt bm : Nat) (room : Int) (n : Nat) (S : St) (a : ActV) (w : World) (ht : TreeS w X bt room S) (hg : Good room n S) (hn : n < 268435456) (ha : ActOk a) (hk : a.k = 3) :
    Calls Try.prog 31 #[.agg #[.pointer (some ⟨bt, 0, none⟩), .pointer (some ⟨bm, 0, none⟩)], .agg #[.int .i64 a.op, .int .i64 a.n, .int .i64 a.m, .string a.path, .string a.text]] w fun e w' => e = .returned (.tuple #[]) ∧ StepS w X bt room (actS room S a) w' := by
  have hS : actS room S a = (opA room S a.path.data.toList a.text.data.toList).2 := by unfold actS; rw [hk]; rfl
  rw [hS]
  obtain ⟨S1, hS1⟩ : ∃ S1, S1 = (opA room S a.path.data.toList a.text.data.toList).2 := ⟨_, rfl⟩
  have hb := boxed_below w bt bm a
  obtain ⟨q0, q1, q2, q3, q4, q5, q6⟩ := boxC_of (boxed_cells w bt bm a).1 (boxed_cells w bt bm a).2
  have h0 := TreeR.below ht hb
  have HT : Hid (Calls Try.prog 29 #[.pointer (some ⟨bt, 0, none⟩), .string a.path, .string a.text] (boxed w bt bm a) fun r W' => r = .returned (.int .i64 (opA room S a.path.data.toList a.text.data.toList).1) ∧ StepS w X bt room S1 W') := by
    rw [hS1]
    exact (append_tree bt X a.path a.text room S _ h0 (hg.ok (by omega)) (by have := ha.path1; omega) (by have := ha.text1; omega) (hg.tx _)).mono fun _ _ q => ⟨q.1, StepS.behind hb q.2⟩
  have HP : Hid (∀ W, Calls Try.prog 25 #[.int .i64 a.op, .int .i64 8] W fun e w' => e = .returned (.int .i64 3) ∧ W = w') := by
    intro W
    have := pick_any a.op ha.op 8 (by omega) (by omega) W
    rw [show pickZ a.op 8 = 3 from hk] at this
    exact this
  rw [← hS1]
  obtain ⟨W0, hW0⟩ : ∃ W0, W0 = boxed w bt bm a := ⟨_, rfl⟩
  rw [← hW0] at HT q0 q1 q2 q3 q4 q5 q6
  unfold boxed at hW0
  have HW0 := Lib.hid hW0
  obtain ⟨op, an, am, ap, at'⟩ := a
  simp only at HT HP q0 q1 q2 q3 q4 q5 q6
  clear ht hg hn ha hk hS hS1 hb hW0 h0
  go_enter Try.func31, Try.ntmps31
  go_wp2_with (first
    | (go_at_call 25; rw [← HW0.out]; refine (HP.out _).mono ?_; rintro e w1 ⟨rfl, rfl⟩)
    | (go_at_call 29; refine (HT.out).mono ?_; rintro r w5 ⟨rfl, hcr5⟩))
  go_end0
  exact ⟨rfl, hcr5⟩

set_option maxRecDepth 100000 in
set_option maxHeartbeats 4000000 in
theorem acts_4 (X : Nat → Prop) (bt bm : Nat) (room : Int) (n : Nat) (S : St) (a : ActV) (w : World) (ht : TreeS w X bt room S) (hg : Good room n S) (hn : n < 268435456) (ha : ActOk a) (hk : a.k = 4) :
    Calls Try.prog 31 #[.agg #[.pointer (some ⟨bt, 0, none⟩), .pointer (some ⟨bm, 0, none⟩)], .agg #[.int .i64 a.op, .int .i64 a.n, .int .i64 a.m, .string a.path, .string a.text]] w fun e w' => e = .returned (.tuple #[]) ∧ StepS w X bt room (actS room S a) w' := by
  have hS : actS room S a = (opR S a.path.data.toList).2 := by unfold actS; rw [hk]; rfl
  rw [hS]
  obtain ⟨S1, hS1⟩ : ∃ S1, S1 = (opR S a.path.data.toList).2 := ⟨_, rfl⟩
  have hb := boxed_below w bt bm a
  obtain ⟨q0, q1, q2, q3, q4, q5, q6⟩ := boxC_of (boxed_cells w bt bm a).1 (boxed_cells w bt bm a).2
  have h0 := TreeR.below ht hb
  have HT : Hid (Calls Try.prog 21 #[.pointer (some ⟨bt, 0, none⟩), .string a.path] (boxed w bt bm a) fun r W' => r = .returned (.int .i64 (opR S a.path.data.toList).1) ∧ StepS w X bt room S1 W') := by
    rw [hS1]
    exact (remove_tree bt X a.path room S _ h0 (hg.ok (by omega)) (by have := ha.path1; omega)).mono fun _ _ q => ⟨q.1, StepS.behind hb q.2⟩
  have HP : Hid (∀ W, Calls Try.prog 25 #[.int .i64 a.op, .int .i64 8] W fun e w' => e = .returned (.int .i64 4) ∧ W = w') := by
    intro W
    have := pick_any a.op ha.op 8 (by omega) (by omega) W
    rw [show pickZ a.op 8 = 4 from hk] at this
    exact this
  rw [← hS1]
  obtain ⟨W0, hW0⟩ : ∃ W0, W0 = boxed w bt bm a := ⟨_, rfl⟩
  rw [← hW0] at HT q0 q1 q2 q3 q4 q5 q6
  unfold boxed at hW0
  have HW0 := Lib.hid hW0
  obtain ⟨op, an, am, ap, at'⟩ := a
  simp only at HT HP q0 q1 q2 q3 q4 q5 q6
  clear ht hg hn ha hk hS hS1 hb hW0 h0
  go_enter Try.func31, Try.ntmps31
  go_wp2_with (first
    | (go_at_call 25; rw [← HW0.out]; refine (HP.out _).mono ?_; rintro e w1 ⟨rfl, rfl⟩)
    | (go_at_call 21; refine (HT.out).mono ?_; rintro r w5 ⟨rfl, hcr5⟩))
  go_end0
  exact ⟨rfl, hcr5⟩

set_option maxRecDepth 100000 in
set_option maxHeartbeats 4000000 in
theorem acts_5 (X : Nat → Prop) (bt bm : Nat) (room : Int) (n : Nat) (S : St) (a : ActV) (w : World) (ht : TreeS w X bt room S) (hg : Good room n S) (hn : n < 268435456) (ha : ActOk a) (hk : a.k = 5) :
    Calls Try.prog 31 #[.agg #[.pointer (some ⟨bt, 0, none⟩), .pointer (some ⟨bm, 0, none⟩)], .agg #[.int .i64 a.op, .int .i64 a.n, .int .i64 a.m, .string a.path, .string a.text]] w fun e w' => e = .returned (.tuple #[]) ∧ StepS w X bt room (actS room S a) w' := by
  have hS : actS room S a = (opN S a.path.data.toList a.text.data.toList).2 := by unfold actS; rw [hk]; rfl
  rw [hS]
  obtain ⟨S1, hS1⟩ : ∃ S1, S1 = (opN S a.path.data.toList a.text.data.toList).2 := ⟨_, rfl⟩
  have hb := boxed_below w bt bm a
  obtain ⟨q0, q1, q2, q3, q4, q5, q6⟩ := boxC_of (boxed_cells w bt bm a).1 (boxed_cells w bt bm a).2
  have h0 := TreeR.below ht hb
  have HT : Hid (Calls Try.prog 23 #[.pointer (some ⟨bt, 0, none⟩), .string a.path, .string a.text] (boxed w bt bm a) fun r W' => r = .returned (.int .i64 (opN S a.path.data.toList a.text.data.toList).1) ∧ StepS w X bt room S1 W') := by
    rw [hS1]
    exact (rename_tree bt X a.path a.text room S _ h0 (hg.ok (by omega)) (by have := ha.path1; omega) (by have := ha.text1; omega)).mono fun _ _ q => ⟨q.1, StepS.behind hb q.2⟩
  have HP : Hid (∀ W, Calls Try.prog 25 #[.int .i64 a.op, .int .i64 8] W fun e w' => e = .returned (.int .i64 5) ∧ W = w') := by
    intro W
    have := pick_any a.op ha.op 8 (by omega) (by omega) W
    rw [show pickZ a.op 8 = 5 from hk] at this
    exact this
  rw [← hS1]
  obtain ⟨W0, hW0⟩ : ∃ W0, W0 = boxed w bt bm a := ⟨_, rfl⟩
  rw [← hW0] at HT q0 q1 q2 q3 q4 q5 q6
  unfold boxed at hW0
  have HW0 := Lib.hid hW0
  obtain ⟨op, an, am, ap, at'⟩ := a
  simp only at HT HP q0 q1 q2 q3 q4 q5 q6
  clear ht hg hn ha hk hS hS1 hb hW0 h0
  go_enter Try.func31, Try.ntmps31
  go_wp2_with (first
    | (go_at_call 25; rw [← HW0.out]; refine (HP.out _).mono ?_; rintro e w1 ⟨rfl, rfl⟩)
    | (go_at_call 23; refine (HT.out).mono ?_; rintro r w5 ⟨rfl, hcr5⟩))
  go_end0
  exact ⟨rfl, hcr5⟩

set_option maxRecDepth 100000 in
set_option maxHeartbeats 4000000 in
theorem acts_6 (X : Nat → Prop) (bt bm : Nat) (room : Int) (n : Nat) (S : St) (a : ActV) (w : World) (ht : TreeS w X bt room S) (hg : Good room n S) (_hn : n < 268435456) (ha : ActOk a) (hk : a.k = 6) :
    Calls Try.prog 31 #[.agg #[.pointer (some ⟨bt, 0, none⟩), .pointer (some ⟨bm, 0, none⟩)], .agg #[.int .i64 a.op, .int .i64 a.n, .int .i64 a.m, .string a.path, .string a.text]] w fun e w' => e = .returned (.tuple #[]) ∧ StepS w X bt room (actS room S a) w' := by
  have hS : actS room S a = opS S := by unfold actS; rw [hk]; rfl
  rw [hS]
  obtain ⟨S1, hS1⟩ : ∃ S1, S1 = opS S := ⟨_, rfl⟩
  have hb := boxed_below w bt bm a
  obtain ⟨q0, q1, q2, q3, q4, q5, q6⟩ := boxC_of (boxed_cells w bt bm a).1 (boxed_cells w bt bm a).2
  have h0 := TreeR.below ht hb
  have HT : Hid (Calls Try.prog 22 #[.pointer (some ⟨bt, 0, none⟩)] (boxed w bt bm a) fun r W' => r = .returned (.tuple #[]) ∧ StepS w X bt room S1 W') := by
    rw [hS1]
    exact (sync_tree bt X room S _ h0 hg.files.len).mono fun _ _ q => ⟨q.1, StepS.behind hb q.2⟩
  have HP : Hid (∀ W, Calls Try.prog 25 #[.int .i64 a.op, .int .i64 8] W fun e w' => e = .returned (.int .i64 6) ∧ W = w') := by
    intro W
    have := pick_any a.op ha.op 8 (by omega) (by omega) W
    rw [show pickZ a.op 8 = 6 from hk] at this
    exact this
  rw [← hS1]
  obtain ⟨W0, hW0⟩ : ∃ W0, W0 = boxed w bt bm a := ⟨_, rfl⟩
  rw [← hW0] at HT q0 q1 q2 q3 q4 q5 q6
  unfold boxed at hW0
  have HW0 := Lib.hid hW0
  obtain ⟨op, an, am, ap, at'⟩ := a
  simp only at HT HP q0 q1 q2 q3 q4 q5 q6
  clear ht hg _hn ha hk hS hS1 hb hW0 h0
  go_enter Try.func31, Try.ntmps31
  go_wp2_with (first
    | (go_at_call 25; rw [← HW0.out]; refine (HP.out _).mono ?_; rintro e w1 ⟨rfl, rfl⟩)
    | (go_at_call 22; refine (HT.out).mono ?_; rintro r w5 ⟨rfl, hcr5⟩))
  go_end0
  exact ⟨rfl, hcr5⟩

set_option maxRecDepth 100000 in
set_option maxHeartbeats 4000000 in
theorem acts_7 (X : Nat → Prop) (bt bm : Nat) (room : Int) (n : Nat) (S : St) (a : ActV) (w : World) (ht : TreeS w X bt room S) (hg : Good room n S) (_hn : n < 268435456) (ha : ActOk a) (hk : a.k = 7) :
    Calls Try.prog 31 #[.agg #[.pointer (some ⟨bt, 0, none⟩), .pointer (some ⟨bm, 0, none⟩)], .agg #[.int .i64 a.op, .int .i64 a.n, .int .i64 a.m, .string a.path, .string a.text]] w fun e w' => e = .returned (.tuple #[]) ∧ StepS w X bt room (actS room S a) w' := by
  have hS : actS room S a = opC S a.n a.m := by unfold actS; rw [hk]; rfl
  rw [hS]
  obtain ⟨S1, hS1⟩ : ∃ S1, S1 = opC S a.n a.m := ⟨_, rfl⟩
  have hb := boxed_below w bt bm a
  obtain ⟨q0, q1, q2, q3, q4, q5, q6⟩ := boxC_of (boxed_cells w bt bm a).1 (boxed_cells w bt bm a).2
  have h0 := TreeR.below ht hb
  have HT : Hid (Calls Try.prog 16 #[.pointer (some ⟨bt, 0, none⟩), .int .i64 a.n, .int .i64 a.m] (boxed w bt bm a) fun r W' => r = .returned (.tuple #[]) ∧ StepS w X bt room S1 W') := by
    rw [hS1]
    exact (crash_tree bt X room S a.n a.m _ h0 hg.run.head.len hg.run.goes (by have := ha.m; omega)).mono fun _ _ q => ⟨q.1, StepS.behind hb q.2⟩
  have HP : Hid (∀ W, Calls Try.prog 25 #[.int .i64 a.op, .int .i64 8] W fun e w' => e = .returned (.int .i64 7) ∧ W = w') := by
    intro W
    have := pick_any a.op ha.op 8 (by omega) (by omega) W
    rw [show pickZ a.op 8 = 7 from hk] at this
    exact this
  rw [← hS1]
  obtain ⟨W0, hW0⟩ : ∃ W0, W0 = boxed w bt bm a := ⟨_, rfl⟩
  rw [← hW0] at HT q0 q1 q2 q3 q4 q5 q6
  unfold boxed at hW0
  have HW0 := Lib.hid hW0
  obtain ⟨op, an, am, ap, at'⟩ := a
  simp only at HT HP q0 q1 q2 q3 q4 q5 q6
  clear ht hg _hn ha hk hS hS1 hb hW0 h0
  go_enter Try.func31, Try.ntmps31
  go_wp2_with (first
    | (go_at_call 25; rw [← HW0.out]; refine (HP.out _).mono ?_; rintro e w1 ⟨rfl, rfl⟩)
    | (go_at_call 16; refine (HT.out).mono ?_; rintro r w5 ⟨rfl, hcr5⟩))
  go_end0
  exact ⟨rfl, hcr5⟩

/-- An act, done to the program's tree alone. -/
theorem acts_any (X : Nat → Prop) (bt bm : Nat) (room : Int) (n : Nat) (S : St) (a : ActV) (w : World) (ht : TreeS w X bt room S) (hg : Good room n S) (hn : n < 268435456) (ha : ActOk a) :
    Calls Try.prog 31 #[.agg #[.pointer (some ⟨bt, 0, none⟩), .pointer (some ⟨bm, 0, none⟩)], .agg (actCells a).toArray] w fun e w' => e = .returned (.tuple #[]) ∧ StepS w X bt room (actS room S a) w' := by
  have h8 := a.k8
  rcases (show a.k = 0 ∨ a.k = 1 ∨ a.k = 2 ∨ a.k = 3 ∨ a.k = 4 ∨ a.k = 5 ∨ a.k = 6 ∨ a.k = 7 by omega) with h | h | h | h | h | h | h | h
  · exact acts_0 X bt bm room n S a w ht hg hn ha h
  · exact acts_1 X bt bm room n S a w ht hg hn ha h
  · exact acts_2 X bt bm room n S a w ht hg hn ha h
  · exact acts_3 X bt bm room n S a w ht hg hn ha h
  · exact acts_4 X bt bm room n S a w ht hg hn ha h
  · exact acts_5 X bt bm room n S a w ht hg hn ha h
  · exact acts_6 X bt bm room n S a w ht hg hn ha h
  · exact acts_7 X bt bm room n S a w ht hg hn ha h

end Go.Proofs.Ytginlknlkbhgaaa
