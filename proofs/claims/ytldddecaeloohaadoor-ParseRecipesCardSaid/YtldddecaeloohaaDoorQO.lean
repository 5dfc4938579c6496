/-
  What the program's node answers: what a line without a tab says, but for its number. For every text of at most a hundred thousand bytes. No condition.
-/
import Derived.Test.YtldddecaeloohaaDoorQOa
import Derived.Test.YtldddecaeloohaaDoorQOb
import Derived.Test.YtldddecaeloohaaDoorQOd
namespace Go.Proofs.YtldddecaeloohaaDoor
open Go.RowKit Go.Shelf
attribute [local go_sem] Oper.semAt_some

theorem one_is (s : BS) : oneL 0 s =
    if (fwd s).1 = wIfeq ∨ (fwd s).1 = wIfneq then ifL 0 (fwd s).1 (fwd s).2
    else if (fwd s).1 = wIfdef ∨ (fwd s).1 = wIfndef then (if nameB (fwd s).2 then some ⟨3, 0, (fwd s).1, (fwd s).2, [], [], [], [], [], []⟩ else none)
    else if (fwd s).1 = wElse then (if (fwd s).2 = [] then some ⟨4, 0, [], [], [], [], [], [], [], []⟩ else none)
    else if (fwd s).1 = wEndif then (if (fwd s).2 = [] then some ⟨5, 0, [], [], [], [], [], [], [], []⟩ else none)
    else if (fwd s).1 = wIncl ∨ (fwd s).1 = wIncl2 then (if (fwd s).2 = [] then none else some ⟨6, 0, (fwd s).1, [], (fwd s).2, [], [], [], [], []⟩)
    else eqL 0 s := by
  have hw := words_trim s
  cases h : wordsL s with
  | nil =>
    rw [fwd_nil h]
    have h1 : oneL 0 s = none := by unfold oneL; rw [hw, h]
    have h2 : eqL 0 s = none := by
      rw [← eq_trim, trim_void.2 h]; rfl
    rw [h1, h2]
    rfl
  | cons w ws =>
    have hr := rest_none h
    rw [fwd_cons h]
    simp only
    unfold oneL
    rw [hw, h, eq_trim]
    simp only [hr]
theorem fwd_len (s : BS) : (fwd s).2.length ≤ s.length := by
  cases h : wordsL s with
  | nil => rw [fwd_nil h]; exact Nat.zero_le _
  | cons w ws =>
    rw [fwd_cons h]
    refine Nat.le_trans (trim_len _) ?_
    rw [List.length_drop]
    have := trim_len s
    omega
set_option maxRecDepth 100000 in
set_option maxHeartbeats 16000000 in
theorem node_any (s : ByteArray) (hs : s.size ≤ 1000000) (w : World) : Calls Tryd.prog 25 #[.string s] w (OnePost (oneL 0 s.data.toList) w) := by
  have HF := Lib.hid (firstWord_any s hs)
  have HAs := Lib.hid (assignOrRule_any s hs)
  have hO := one_is s.data.toList
  have hl := fwd_len s.data.toList
  rw [size_list] at hl
  generalize (fwd s.data.toList).1 = wd at HF hO
  generalize (fwd s.data.toList).2 = rs at HF hO hl
  have HO := Lib.hid hO
  have e0 : txt [] = ⟨#[]⟩ := rfl
  have E0 := Lib.hid e0
  clear hO e0
  go_enter Tryd.func25, Tryd.ntmps25
  go_wp2_with fail
  have hZ : ZeroP w (w.alloc (.cells #[.int .i64 0, .int .i64 0, .string ⟨#[]⟩, .string ⟨#[]⟩, .string ⟨#[]⟩, .string ⟨#[]⟩, .string ⟨#[]⟩, .string ⟨#[]⟩, .string ⟨#[]⟩, .slice none 0 0] 49)) := ZeroP.start w
  generalize w.alloc (.cells #[.int .i64 0, .int .i64 0, .string ⟨#[]⟩, .string ⟨#[]⟩, .string ⟨#[]⟩, .string ⟨#[]⟩, .string ⟨#[]⟩, .string ⟨#[]⟩, .string ⟨#[]⟩, .slice none 0 0] 49) = w0 at hZ ⊢
  refine (HF.out _).mono ?_
  rintro e w1 ⟨rfl, hb1⟩
  have hZ1 := hZ.below hb1
  clear hZ hb1 HF
  by_cases hcl : wd = wIfeq
  · -- wIfeq
    have HY : Hid (oneL 0 s.data.toList = ifL 0 wd rs) := by
      show _ = _
      rw [HO.out, hcl]; rfl
    have HQ : Hid (∀ W, Calls Tryd.prog 46 #[.string (txt wd), .string (txt rs)] W (OnePost (ifL 0 wd rs) W)) := fun W => by
      have := compared_any (txt wd) (txt rs) (by rw [txt_size]; omega) W
      rwa [txt_data, txt_data] at this
    have q0 : ((txt wd).toList == [105, 102, 101, 113]) = true := by rw [txt_toL, hcl]; decide
    have q1 : ((txt wd).toList == [105, 102, 110, 101, 113]) = false := by rw [txt_toL, hcl]; decide
    have q2 : ((txt wd).toList == [105, 102, 100, 101, 102]) = false := by rw [txt_toL, hcl]; decide
    have q3 : ((txt wd).toList == [105, 102, 110, 100, 101, 102]) = false := by rw [txt_toL, hcl]; decide
    have q4 : ((txt wd).toList == [101, 108, 115, 101]) = false := by rw [txt_toL, hcl]; decide
    have q5 : ((txt wd).toList == [101, 110, 100, 105, 102]) = false := by rw [txt_toL, hcl]; decide
    have q6 : ((txt wd).toList == [105, 110, 99, 108, 117, 100, 101]) = false := by rw [txt_toL, hcl]; decide
    have q7 : ((txt wd).toList == [45, 105, 110, 99, 108, 117, 100, 101]) = false := by rw [txt_toL, hcl]; decide
    have HCl := Lib.hid hcl
    clear hcl HO HAs
    go_wp2_with fail
    refine (HQ.out _).mono ?_
    rintro e w2 ⟨nd, rfl, hnd, hb2⟩
    have hZ2 := hZ1.below hb2
    have HZ2 := Lib.hid hZ2
    obtain ⟨hz, fz⟩ := hZ2.cells
    obtain ⟨z0, hz0⟩ := hz 0 (by omega)
    obtain ⟨z1, hz1⟩ := hz 1 (by omega)
    obtain ⟨z2, hz2⟩ := hz 2 (by omega)
    obtain ⟨z3, hz3⟩ := hz 3 (by omega)
    obtain ⟨z4, hz4⟩ := hz 4 (by omega)
    obtain ⟨z5, hz5⟩ := hz 5 (by omega)
    obtain ⟨z6, hz6⟩ := hz 6 (by omega)
    obtain ⟨z7, hz7⟩ := hz 7 (by omega)
    obtain ⟨z8, hz8⟩ := hz 8 (by omega)
    obtain ⟨z9, hz9⟩ := hz 9 (by omega)
    clear hz
    clear hZ1 hZ2 hb2
    go_wp2
    obtain ⟨hbk, r0, r1, r2, r3, r4, r5, r6, r7, r8, r9⟩ := finP0 HZ2.out.1 HZ2.out.2 (.int .i64 nd.kind) (.int .i64 nd.no) (.string (txt nd.op)) (.string (txt nd.name)) (.string (txt nd.text)) (.string (txt nd.targets)) (.string (txt nd.pattern)) (.string (txt nd.inputs)) (.string (txt nd.order)) (.slice none 0 0)
    unfold doneN at hbk r0 r1 r2 r3 r4 r5 r6 r7 r8 r9
    exact bodyPost_ret (v := .tuple #[.agg (cellsN nd), .bool (ifL 0 wd rs).isSome]) (by simp [results, Tryd.results25, go_sem, r0, r1, r2, r3, r4, r5, r6, r7, r8, r9]) rfl ⟨nd, by rw [HY.out], fun n hn => hnd n (by rw [← HY.out]; exact hn), hbk⟩
  have n0 : wd ≠ wIfeq := hcl
  clear hcl
  by_cases hcl : wd = wIfneq
  · -- wIfneq
    have HY : Hid (oneL 0 s.data.toList = ifL 0 wd rs) := by
      show _ = _
      rw [HO.out, hcl]; rfl
    have HQ : Hid (∀ W, Calls Tryd.prog 46 #[.string (txt wd), .string (txt rs)] W (OnePost (ifL 0 wd rs) W)) := fun W => by
      have := compared_any (txt wd) (txt rs) (by rw [txt_size]; omega) W
      rwa [txt_data, txt_data] at this
    have q0 : ((txt wd).toList == [105, 102, 101, 113]) = false := by rw [txt_toL, hcl]; decide
    have q1 : ((txt wd).toList == [105, 102, 110, 101, 113]) = true := by rw [txt_toL, hcl]; decide
    have q2 : ((txt wd).toList == [105, 102, 100, 101, 102]) = false := by rw [txt_toL, hcl]; decide
    have q3 : ((txt wd).toList == [105, 102, 110, 100, 101, 102]) = false := by rw [txt_toL, hcl]; decide
    have q4 : ((txt wd).toList == [101, 108, 115, 101]) = false := by rw [txt_toL, hcl]; decide
    have q5 : ((txt wd).toList == [101, 110, 100, 105, 102]) = false := by rw [txt_toL, hcl]; decide
    have q6 : ((txt wd).toList == [105, 110, 99, 108, 117, 100, 101]) = false := by rw [txt_toL, hcl]; decide
    have q7 : ((txt wd).toList == [45, 105, 110, 99, 108, 117, 100, 101]) = false := by rw [txt_toL, hcl]; decide
    have HCl := Lib.hid hcl
    clear hcl HO HAs
    go_wp2_with fail
    refine (HQ.out _).mono ?_
    rintro e w2 ⟨nd, rfl, hnd, hb2⟩
    have hZ2 := hZ1.below hb2
    have HZ2 := Lib.hid hZ2
    obtain ⟨hz, fz⟩ := hZ2.cells
    obtain ⟨z0, hz0⟩ := hz 0 (by omega)
    obtain ⟨z1, hz1⟩ := hz 1 (by omega)
    obtain ⟨z2, hz2⟩ := hz 2 (by omega)
    obtain ⟨z3, hz3⟩ := hz 3 (by omega)
    obtain ⟨z4, hz4⟩ := hz 4 (by omega)
    obtain ⟨z5, hz5⟩ := hz 5 (by omega)
    obtain ⟨z6, hz6⟩ := hz 6 (by omega)
    obtain ⟨z7, hz7⟩ := hz 7 (by omega)
    obtain ⟨z8, hz8⟩ := hz 8 (by omega)
    obtain ⟨z9, hz9⟩ := hz 9 (by omega)
    clear hz
    clear hZ1 hZ2 hb2
    go_wp2
    obtain ⟨hbk, r0, r1, r2, r3, r4, r5, r6, r7, r8, r9⟩ := finP0 HZ2.out.1 HZ2.out.2 (.int .i64 nd.kind) (.int .i64 nd.no) (.string (txt nd.op)) (.string (txt nd.name)) (.string (txt nd.text)) (.string (txt nd.targets)) (.string (txt nd.pattern)) (.string (txt nd.inputs)) (.string (txt nd.order)) (.slice none 0 0)
    unfold doneN at hbk r0 r1 r2 r3 r4 r5 r6 r7 r8 r9
    exact bodyPost_ret (v := .tuple #[.agg (cellsN nd), .bool (ifL 0 wd rs).isSome]) (by simp [results, Tryd.results25, go_sem, r0, r1, r2, r3, r4, r5, r6, r7, r8, r9]) rfl ⟨nd, by rw [HY.out], fun n hn => hnd n (by rw [← HY.out]; exact hn), hbk⟩
  have n1 : wd ≠ wIfneq := hcl
  clear hcl
  by_cases hcl : wd = wIfdef
  · -- wIfdef
    have HY : Hid (oneL 0 s.data.toList = if nameB rs then some ⟨3, 0, wd, rs, [], [], [], [], [], []⟩ else none) := by
      show _ = _
      rw [HO.out, hcl]; rfl
    have HNm : Hid (∀ W, Calls Tryd.prog 17 #[.string (txt rs)] W fun e w' => e = .returned (.bool (nameB rs)) ∧ W = w') := fun W => by
      have := name_any (txt rs) (by rw [txt_size]; unfold maxLen; omega) W
      rwa [txt_data] at this
    have q0 : ((txt wd).toList == [105, 102, 101, 113]) = false := by rw [txt_toL, hcl]; decide
    have q1 : ((txt wd).toList == [105, 102, 110, 101, 113]) = false := by rw [txt_toL, hcl]; decide
    have q2 : ((txt wd).toList == [105, 102, 100, 101, 102]) = true := by rw [txt_toL, hcl]; decide
    have q3 : ((txt wd).toList == [105, 102, 110, 100, 101, 102]) = false := by rw [txt_toL, hcl]; decide
    have q4 : ((txt wd).toList == [101, 108, 115, 101]) = false := by rw [txt_toL, hcl]; decide
    have q5 : ((txt wd).toList == [101, 110, 100, 105, 102]) = false := by rw [txt_toL, hcl]; decide
    have q6 : ((txt wd).toList == [105, 110, 99, 108, 117, 100, 101]) = false := by rw [txt_toL, hcl]; decide
    have q7 : ((txt wd).toList == [45, 105, 110, 99, 108, 117, 100, 101]) = false := by rw [txt_toL, hcl]; decide
    have HCl := Lib.hid hcl
    clear hcl HO HAs
    generalize nameB rs = nb at HNm HY
    have HP : Hid (∀ W, Below w.heap.size w W → OnePost (oneL 0 s.data.toList) w (.returned (.tuple #[.agg (cellsN ⟨3, 0, wd, rs, [], [], [], [], [], []⟩), .bool nb])) W) := fun W hW => by
      refine ⟨⟨3, 0, wd, rs, [], [], [], [], [], []⟩, by rw [HY.out]; cases nb <;> rfl, fun n hn => ?_, hW⟩
      rw [HY.out] at hn
      split at hn
      · cases hn; rfl
      · cases hn
    have HZ1 := Lib.hid hZ1
    obtain ⟨hz, fz⟩ := hZ1.cells
    obtain ⟨z0, hz0⟩ := hz 0 (by omega)
    obtain ⟨z1, hz1⟩ := hz 1 (by omega)
    obtain ⟨z2, hz2⟩ := hz 2 (by omega)
    obtain ⟨z3, hz3⟩ := hz 3 (by omega)
    obtain ⟨z4, hz4⟩ := hz 4 (by omega)
    obtain ⟨z5, hz5⟩ := hz 5 (by omega)
    obtain ⟨z6, hz6⟩ := hz 6 (by omega)
    obtain ⟨z7, hz7⟩ := hz 7 (by omega)
    obtain ⟨z8, hz8⟩ := hz 8 (by omega)
    obtain ⟨z9, hz9⟩ := hz 9 (by omega)
    clear hz
    clear hZ1
    go_wp2_with (first | (go_at_call 17; refine (HNm.out _).mono ?_; rintro e w' ⟨rfl, rfl⟩))
    obtain ⟨hbk, r0, r1, r2, r3, r4, r5, r6, r7, r8, r9⟩ := finP0 HZ1.out.1 HZ1.out.2 (.int .i64 3) (.int .i64 0) (.string (txt wd)) (.string (txt rs)) (.string ⟨#[]⟩) (.string ⟨#[]⟩) (.string ⟨#[]⟩) (.string ⟨#[]⟩) (.string ⟨#[]⟩) (.slice none 0 0)
    unfold doneN at hbk r0 r1 r2 r3 r4 r5 r6 r7 r8 r9
    exact bodyPost_ret (v := .tuple #[.agg (cellsN ⟨3, 0, wd, rs, [], [], [], [], [], []⟩), .bool nb]) (by simp [results, Tryd.results25, go_sem, E0.out, r0, r1, r2, r3, r4, r5, r6, r7, r8, r9]) rfl (HP.out _ hbk)
  have n2 : wd ≠ wIfdef := hcl
  clear hcl
  by_cases hcl : wd = wIfndef
  · -- wIfndef
    have HY : Hid (oneL 0 s.data.toList = if nameB rs then some ⟨3, 0, wd, rs, [], [], [], [], [], []⟩ else none) := by
      show _ = _
      rw [HO.out, hcl]; rfl
    have HNm : Hid (∀ W, Calls Tryd.prog 17 #[.string (txt rs)] W fun e w' => e = .returned (.bool (nameB rs)) ∧ W = w') := fun W => by
      have := name_any (txt rs) (by rw [txt_size]; unfold maxLen; omega) W
      rwa [txt_data] at this
    have q0 : ((txt wd).toList == [105, 102, 101, 113]) = false := by rw [txt_toL, hcl]; decide
    have q1 : ((txt wd).toList == [105, 102, 110, 101, 113]) = false := by rw [txt_toL, hcl]; decide
    have q2 : ((txt wd).toList == [105, 102, 100, 101, 102]) = false := by rw [txt_toL, hcl]; decide
    have q3 : ((txt wd).toList == [105, 102, 110, 100, 101, 102]) = true := by rw [txt_toL, hcl]; decide
    have q4 : ((txt wd).toList == [101, 108, 115, 101]) = false := by rw [txt_toL, hcl]; decide
    have q5 : ((txt wd).toList == [101, 110, 100, 105, 102]) = false := by rw [txt_toL, hcl]; decide
    have q6 : ((txt wd).toList == [105, 110, 99, 108, 117, 100, 101]) = false := by rw [txt_toL, hcl]; decide
    have q7 : ((txt wd).toList == [45, 105, 110, 99, 108, 117, 100, 101]) = false := by rw [txt_toL, hcl]; decide
    have HCl := Lib.hid hcl
    clear hcl HO HAs
    generalize nameB rs = nb at HNm HY
    have HP : Hid (∀ W, Below w.heap.size w W → OnePost (oneL 0 s.data.toList) w (.returned (.tuple #[.agg (cellsN ⟨3, 0, wd, rs, [], [], [], [], [], []⟩), .bool nb])) W) := fun W hW => by
      refine ⟨⟨3, 0, wd, rs, [], [], [], [], [], []⟩, by rw [HY.out]; cases nb <;> rfl, fun n hn => ?_, hW⟩
      rw [HY.out] at hn
      split at hn
      · cases hn; rfl
      · cases hn
    have HZ1 := Lib.hid hZ1
    obtain ⟨hz, fz⟩ := hZ1.cells
    obtain ⟨z0, hz0⟩ := hz 0 (by omega)
    obtain ⟨z1, hz1⟩ := hz 1 (by omega)
    obtain ⟨z2, hz2⟩ := hz 2 (by omega)
    obtain ⟨z3, hz3⟩ := hz 3 (by omega)
    obtain ⟨z4, hz4⟩ := hz 4 (by omega)
    obtain ⟨z5, hz5⟩ := hz 5 (by omega)
    obtain ⟨z6, hz6⟩ := hz 6 (by omega)
    obtain ⟨z7, hz7⟩ := hz 7 (by omega)
    obtain ⟨z8, hz8⟩ := hz 8 (by omega)
    obtain ⟨z9, hz9⟩ := hz 9 (by omega)
    clear hz
    clear hZ1
    go_wp2_with (first | (go_at_call 17; refine (HNm.out _).mono ?_; rintro e w' ⟨rfl, rfl⟩))
    obtain ⟨hbk, r0, r1, r2, r3, r4, r5, r6, r7, r8, r9⟩ := finP0 HZ1.out.1 HZ1.out.2 (.int .i64 3) (.int .i64 0) (.string (txt wd)) (.string (txt rs)) (.string ⟨#[]⟩) (.string ⟨#[]⟩) (.string ⟨#[]⟩) (.string ⟨#[]⟩) (.string ⟨#[]⟩) (.slice none 0 0)
    unfold doneN at hbk r0 r1 r2 r3 r4 r5 r6 r7 r8 r9
    exact bodyPost_ret (v := .tuple #[.agg (cellsN ⟨3, 0, wd, rs, [], [], [], [], [], []⟩), .bool nb]) (by simp [results, Tryd.results25, go_sem, E0.out, r0, r1, r2, r3, r4, r5, r6, r7, r8, r9]) rfl (HP.out _ hbk)
  have n3 : wd ≠ wIfndef := hcl
  clear hcl
  by_cases hcl : wd = wElse
  · -- wElse
    have HY : Hid (oneL 0 s.data.toList = if decide (rs = []) then some ⟨4, 0, [], [], [], [], [], [], [], []⟩ else none) := by
      show _ = _
      rw [HO.out, hcl]
      show (if rs = [] then some (⟨4, 0, [], [], [], [], [], [], [], []⟩ : Nd) else none) = _
      by_cases h : rs = [] <;> simp [h]
    have eb : (txt rs).toList.isEmpty = decide (rs = []) := by rw [txt_toL]; cases rs <;> rfl
    have q0 : ((txt wd).toList == [105, 102, 101, 113]) = false := by rw [txt_toL, hcl]; decide
    have q1 : ((txt wd).toList == [105, 102, 110, 101, 113]) = false := by rw [txt_toL, hcl]; decide
    have q2 : ((txt wd).toList == [105, 102, 100, 101, 102]) = false := by rw [txt_toL, hcl]; decide
    have q3 : ((txt wd).toList == [105, 102, 110, 100, 101, 102]) = false := by rw [txt_toL, hcl]; decide
    have q4 : ((txt wd).toList == [101, 108, 115, 101]) = true := by rw [txt_toL, hcl]; decide
    have q5 : ((txt wd).toList == [101, 110, 100, 105, 102]) = false := by rw [txt_toL, hcl]; decide
    have q6 : ((txt wd).toList == [105, 110, 99, 108, 117, 100, 101]) = false := by rw [txt_toL, hcl]; decide
    have q7 : ((txt wd).toList == [45, 105, 110, 99, 108, 117, 100, 101]) = false := by rw [txt_toL, hcl]; decide
    have HCl := Lib.hid hcl
    clear hcl HO HAs
    generalize decide (rs = []) = nb at eb HY
    have HP : Hid (∀ W, Below w.heap.size w W → OnePost (oneL 0 s.data.toList) w (.returned (.tuple #[.agg (cellsN ⟨4, 0, [], [], [], [], [], [], [], []⟩), .bool nb])) W) := fun W hW => by
      refine ⟨⟨4, 0, [], [], [], [], [], [], [], []⟩, by rw [HY.out]; cases nb <;> rfl, fun n hn => ?_, hW⟩
      rw [HY.out] at hn
      split at hn
      · cases hn; rfl
      · cases hn
    have HZ1 := Lib.hid hZ1
    obtain ⟨hz, fz⟩ := hZ1.cells
    obtain ⟨z0, hz0⟩ := hz 0 (by omega)
    obtain ⟨z1, hz1⟩ := hz 1 (by omega)
    obtain ⟨z2, hz2⟩ := hz 2 (by omega)
    obtain ⟨z3, hz3⟩ := hz 3 (by omega)
    obtain ⟨z4, hz4⟩ := hz 4 (by omega)
    obtain ⟨z5, hz5⟩ := hz 5 (by omega)
    obtain ⟨z6, hz6⟩ := hz 6 (by omega)
    obtain ⟨z7, hz7⟩ := hz 7 (by omega)
    obtain ⟨z8, hz8⟩ := hz 8 (by omega)
    obtain ⟨z9, hz9⟩ := hz 9 (by omega)
    clear hz
    clear hZ1
    go_wp2
    obtain ⟨hbk, r0, r1, r2, r3, r4, r5, r6, r7, r8, r9⟩ := finP0 HZ1.out.1 HZ1.out.2 (.int .i64 4) (.int .i64 0) (.string ⟨#[]⟩) (.string ⟨#[]⟩) (.string ⟨#[]⟩) (.string ⟨#[]⟩) (.string ⟨#[]⟩) (.string ⟨#[]⟩) (.string ⟨#[]⟩) (.slice none 0 0)
    unfold doneN at hbk r0 r1 r2 r3 r4 r5 r6 r7 r8 r9
    exact bodyPost_ret (v := .tuple #[.agg (cellsN ⟨4, 0, [], [], [], [], [], [], [], []⟩), .bool nb]) (by simp [results, Tryd.results25, go_sem, E0.out, r0, r1, r2, r3, r4, r5, r6, r7, r8, r9]) rfl (HP.out _ hbk)
  have n4 : wd ≠ wElse := hcl
  clear hcl
  by_cases hcl : wd = wEndif
  · -- wEndif
    have HY : Hid (oneL 0 s.data.toList = if decide (rs = []) then some ⟨5, 0, [], [], [], [], [], [], [], []⟩ else none) := by
      show _ = _
      rw [HO.out, hcl]
      show (if rs = [] then some (⟨5, 0, [], [], [], [], [], [], [], []⟩ : Nd) else none) = _
      by_cases h : rs = [] <;> simp [h]
    have eb : (txt rs).toList.isEmpty = decide (rs = []) := by rw [txt_toL]; cases rs <;> rfl
    have q0 : ((txt wd).toList == [105, 102, 101, 113]) = false := by rw [txt_toL, hcl]; decide
    have q1 : ((txt wd).toList == [105, 102, 110, 101, 113]) = false := by rw [txt_toL, hcl]; decide
    have q2 : ((txt wd).toList == [105, 102, 100, 101, 102]) = false := by rw [txt_toL, hcl]; decide
    have q3 : ((txt wd).toList == [105, 102, 110, 100, 101, 102]) = false := by rw [txt_toL, hcl]; decide
    have q4 : ((txt wd).toList == [101, 108, 115, 101]) = false := by rw [txt_toL, hcl]; decide
    have q5 : ((txt wd).toList == [101, 110, 100, 105, 102]) = true := by rw [txt_toL, hcl]; decide
    have q6 : ((txt wd).toList == [105, 110, 99, 108, 117, 100, 101]) = false := by rw [txt_toL, hcl]; decide
    have q7 : ((txt wd).toList == [45, 105, 110, 99, 108, 117, 100, 101]) = false := by rw [txt_toL, hcl]; decide
    have HCl := Lib.hid hcl
    clear hcl HO HAs
    generalize decide (rs = []) = nb at eb HY
    have HP : Hid (∀ W, Below w.heap.size w W → OnePost (oneL 0 s.data.toList) w (.returned (.tuple #[.agg (cellsN ⟨5, 0, [], [], [], [], [], [], [], []⟩), .bool nb])) W) := fun W hW => by
      refine ⟨⟨5, 0, [], [], [], [], [], [], [], []⟩, by rw [HY.out]; cases nb <;> rfl, fun n hn => ?_, hW⟩
      rw [HY.out] at hn
      split at hn
      · cases hn; rfl
      · cases hn
    have HZ1 := Lib.hid hZ1
    obtain ⟨hz, fz⟩ := hZ1.cells
    obtain ⟨z0, hz0⟩ := hz 0 (by omega)
    obtain ⟨z1, hz1⟩ := hz 1 (by omega)
    obtain ⟨z2, hz2⟩ := hz 2 (by omega)
    obtain ⟨z3, hz3⟩ := hz 3 (by omega)
    obtain ⟨z4, hz4⟩ := hz 4 (by omega)
    obtain ⟨z5, hz5⟩ := hz 5 (by omega)
    obtain ⟨z6, hz6⟩ := hz 6 (by omega)
    obtain ⟨z7, hz7⟩ := hz 7 (by omega)
    obtain ⟨z8, hz8⟩ := hz 8 (by omega)
    obtain ⟨z9, hz9⟩ := hz 9 (by omega)
    clear hz
    clear hZ1
    go_wp2
    obtain ⟨hbk, r0, r1, r2, r3, r4, r5, r6, r7, r8, r9⟩ := finP0 HZ1.out.1 HZ1.out.2 (.int .i64 5) (.int .i64 0) (.string ⟨#[]⟩) (.string ⟨#[]⟩) (.string ⟨#[]⟩) (.string ⟨#[]⟩) (.string ⟨#[]⟩) (.string ⟨#[]⟩) (.string ⟨#[]⟩) (.slice none 0 0)
    unfold doneN at hbk r0 r1 r2 r3 r4 r5 r6 r7 r8 r9
    exact bodyPost_ret (v := .tuple #[.agg (cellsN ⟨5, 0, [], [], [], [], [], [], [], []⟩), .bool nb]) (by simp [results, Tryd.results25, go_sem, E0.out, r0, r1, r2, r3, r4, r5, r6, r7, r8, r9]) rfl (HP.out _ hbk)
  have n5 : wd ≠ wEndif := hcl
  clear hcl
  by_cases hcl : wd = wIncl
  · -- wIncl
    have HY : Hid (oneL 0 s.data.toList = if (!decide (rs = [])) then some ⟨6, 0, wd, [], rs, [], [], [], [], []⟩ else none) := by
      show _ = _
      rw [HO.out, hcl]
      show (if rs = [] then none else some (⟨6, 0, wIncl, [], rs, [], [], [], [], []⟩ : Nd)) = _
      by_cases h : rs = [] <;> simp [h]
    have eb : (txt rs).toList.isEmpty = decide (rs = []) := by rw [txt_toL]; cases rs <;> rfl
    have q0 : ((txt wd).toList == [105, 102, 101, 113]) = false := by rw [txt_toL, hcl]; decide
    have q1 : ((txt wd).toList == [105, 102, 110, 101, 113]) = false := by rw [txt_toL, hcl]; decide
    have q2 : ((txt wd).toList == [105, 102, 100, 101, 102]) = false := by rw [txt_toL, hcl]; decide
    have q3 : ((txt wd).toList == [105, 102, 110, 100, 101, 102]) = false := by rw [txt_toL, hcl]; decide
    have q4 : ((txt wd).toList == [101, 108, 115, 101]) = false := by rw [txt_toL, hcl]; decide
    have q5 : ((txt wd).toList == [101, 110, 100, 105, 102]) = false := by rw [txt_toL, hcl]; decide
    have q6 : ((txt wd).toList == [105, 110, 99, 108, 117, 100, 101]) = true := by rw [txt_toL, hcl]; decide
    have q7 : ((txt wd).toList == [45, 105, 110, 99, 108, 117, 100, 101]) = false := by rw [txt_toL, hcl]; decide
    have HCl := Lib.hid hcl
    clear hcl HO HAs
    generalize decide (rs = []) = nb at eb HY
    have HP : Hid (∀ W, Below w.heap.size w W → OnePost (oneL 0 s.data.toList) w (.returned (.tuple #[.agg (cellsN ⟨6, 0, wd, [], rs, [], [], [], [], []⟩), .bool (!nb)])) W) := fun W hW => by
      refine ⟨⟨6, 0, wd, [], rs, [], [], [], [], []⟩, by rw [HY.out]; cases nb <;> rfl, fun n hn => ?_, hW⟩
      rw [HY.out] at hn
      split at hn
      · cases hn; rfl
      · cases hn
    have HZ1 := Lib.hid hZ1
    obtain ⟨hz, fz⟩ := hZ1.cells
    obtain ⟨z0, hz0⟩ := hz 0 (by omega)
    obtain ⟨z1, hz1⟩ := hz 1 (by omega)
    obtain ⟨z2, hz2⟩ := hz 2 (by omega)
    obtain ⟨z3, hz3⟩ := hz 3 (by omega)
    obtain ⟨z4, hz4⟩ := hz 4 (by omega)
    obtain ⟨z5, hz5⟩ := hz 5 (by omega)
    obtain ⟨z6, hz6⟩ := hz 6 (by omega)
    obtain ⟨z7, hz7⟩ := hz 7 (by omega)
    obtain ⟨z8, hz8⟩ := hz 8 (by omega)
    obtain ⟨z9, hz9⟩ := hz 9 (by omega)
    clear hz
    clear hZ1
    go_wp2
    obtain ⟨hbk, r0, r1, r2, r3, r4, r5, r6, r7, r8, r9⟩ := finP0 HZ1.out.1 HZ1.out.2 (.int .i64 6) (.int .i64 0) (.string (txt wd)) (.string ⟨#[]⟩) (.string (txt rs)) (.string ⟨#[]⟩) (.string ⟨#[]⟩) (.string ⟨#[]⟩) (.string ⟨#[]⟩) (.slice none 0 0)
    unfold doneN at hbk r0 r1 r2 r3 r4 r5 r6 r7 r8 r9
    exact bodyPost_ret (v := .tuple #[.agg (cellsN ⟨6, 0, wd, [], rs, [], [], [], [], []⟩), .bool (!nb)]) (by simp [results, Tryd.results25, go_sem, E0.out, r0, r1, r2, r3, r4, r5, r6, r7, r8, r9]) rfl (HP.out _ hbk)
  have n6 : wd ≠ wIncl := hcl
  clear hcl
  by_cases hcl : wd = wIncl2
  · -- wIncl2
    have HY : Hid (oneL 0 s.data.toList = if (!decide (rs = [])) then some ⟨6, 0, wd, [], rs, [], [], [], [], []⟩ else none) := by
      show _ = _
      rw [HO.out, hcl]
      show (if rs = [] then none else some (⟨6, 0, wIncl2, [], rs, [], [], [], [], []⟩ : Nd)) = _
      by_cases h : rs = [] <;> simp [h]
    have eb : (txt rs).toList.isEmpty = decide (rs = []) := by rw [txt_toL]; cases rs <;> rfl
    have q0 : ((txt wd).toList == [105, 102, 101, 113]) = false := by rw [txt_toL, hcl]; decide
    have q1 : ((txt wd).toList == [105, 102, 110, 101, 113]) = false := by rw [txt_toL, hcl]; decide
    have q2 : ((txt wd).toList == [105, 102, 100, 101, 102]) = false := by rw [txt_toL, hcl]; decide
    have q3 : ((txt wd).toList == [105, 102, 110, 100, 101, 102]) = false := by rw [txt_toL, hcl]; decide
    have q4 : ((txt wd).toList == [101, 108, 115, 101]) = false := by rw [txt_toL, hcl]; decide
    have q5 : ((txt wd).toList == [101, 110, 100, 105, 102]) = false := by rw [txt_toL, hcl]; decide
    have q6 : ((txt wd).toList == [105, 110, 99, 108, 117, 100, 101]) = false := by rw [txt_toL, hcl]; decide
    have q7 : ((txt wd).toList == [45, 105, 110, 99, 108, 117, 100, 101]) = true := by rw [txt_toL, hcl]; decide
    have HCl := Lib.hid hcl
    clear hcl HO HAs
    generalize decide (rs = []) = nb at eb HY
    have HP : Hid (∀ W, Below w.heap.size w W → OnePost (oneL 0 s.data.toList) w (.returned (.tuple #[.agg (cellsN ⟨6, 0, wd, [], rs, [], [], [], [], []⟩), .bool (!nb)])) W) := fun W hW => by
      refine ⟨⟨6, 0, wd, [], rs, [], [], [], [], []⟩, by rw [HY.out]; cases nb <;> rfl, fun n hn => ?_, hW⟩
      rw [HY.out] at hn
      split at hn
      · cases hn; rfl
      · cases hn
    have HZ1 := Lib.hid hZ1
    obtain ⟨hz, fz⟩ := hZ1.cells
    obtain ⟨z0, hz0⟩ := hz 0 (by omega)
    obtain ⟨z1, hz1⟩ := hz 1 (by omega)
    obtain ⟨z2, hz2⟩ := hz 2 (by omega)
    obtain ⟨z3, hz3⟩ := hz 3 (by omega)
    obtain ⟨z4, hz4⟩ := hz 4 (by omega)
    obtain ⟨z5, hz5⟩ := hz 5 (by omega)
    obtain ⟨z6, hz6⟩ := hz 6 (by omega)
    obtain ⟨z7, hz7⟩ := hz 7 (by omega)
    obtain ⟨z8, hz8⟩ := hz 8 (by omega)
    obtain ⟨z9, hz9⟩ := hz 9 (by omega)
    clear hz
    clear hZ1
    go_wp2
    obtain ⟨hbk, r0, r1, r2, r3, r4, r5, r6, r7, r8, r9⟩ := finP0 HZ1.out.1 HZ1.out.2 (.int .i64 6) (.int .i64 0) (.string (txt wd)) (.string ⟨#[]⟩) (.string (txt rs)) (.string ⟨#[]⟩) (.string ⟨#[]⟩) (.string ⟨#[]⟩) (.string ⟨#[]⟩) (.slice none 0 0)
    unfold doneN at hbk r0 r1 r2 r3 r4 r5 r6 r7 r8 r9
    exact bodyPost_ret (v := .tuple #[.agg (cellsN ⟨6, 0, wd, [], rs, [], [], [], [], []⟩), .bool (!nb)]) (by simp [results, Tryd.results25, go_sem, E0.out, r0, r1, r2, r3, r4, r5, r6, r7, r8, r9]) rfl (HP.out _ hbk)
  have n7 : wd ≠ wIncl2 := hcl
  clear hcl
  have HY : Hid (oneL 0 s.data.toList = eqL 0 s.data.toList) := by
    show _ = _
    rw [HO.out, if_neg (fun h => h.elim n0 n1), if_neg (fun h => h.elim n2 n3), if_neg n4, if_neg n5, if_neg (fun h => h.elim n6 n7)]
  have HQ := HAs
  have q0 : ((txt wd).toList == [105, 102, 101, 113]) = false := by rw [txt_toL]; exact beq_eq_false_iff_ne.2 n0
  have q1 : ((txt wd).toList == [105, 102, 110, 101, 113]) = false := by rw [txt_toL]; exact beq_eq_false_iff_ne.2 n1
  have q2 : ((txt wd).toList == [105, 102, 100, 101, 102]) = false := by rw [txt_toL]; exact beq_eq_false_iff_ne.2 n2
  have q3 : ((txt wd).toList == [105, 102, 110, 100, 101, 102]) = false := by rw [txt_toL]; exact beq_eq_false_iff_ne.2 n3
  have q4 : ((txt wd).toList == [101, 108, 115, 101]) = false := by rw [txt_toL]; exact beq_eq_false_iff_ne.2 n4
  have q5 : ((txt wd).toList == [101, 110, 100, 105, 102]) = false := by rw [txt_toL]; exact beq_eq_false_iff_ne.2 n5
  have q6 : ((txt wd).toList == [105, 110, 99, 108, 117, 100, 101]) = false := by rw [txt_toL]; exact beq_eq_false_iff_ne.2 n6
  have q7 : ((txt wd).toList == [45, 105, 110, 99, 108, 117, 100, 101]) = false := by rw [txt_toL]; exact beq_eq_false_iff_ne.2 n7
  clear n0 n1 n2 n3 n4 n5 n6 n7 HO HAs
  go_wp2_with fail
  refine (HQ.out _).mono ?_
  rintro e w2 ⟨nd, rfl, hnd, hb2⟩
  have hZ2 := hZ1.below hb2
  have HZ2 := Lib.hid hZ2
  obtain ⟨hz, fz⟩ := hZ2.cells
  obtain ⟨z0, hz0⟩ := hz 0 (by omega)
  obtain ⟨z1, hz1⟩ := hz 1 (by omega)
  obtain ⟨z2, hz2⟩ := hz 2 (by omega)
  obtain ⟨z3, hz3⟩ := hz 3 (by omega)
  obtain ⟨z4, hz4⟩ := hz 4 (by omega)
  obtain ⟨z5, hz5⟩ := hz 5 (by omega)
  obtain ⟨z6, hz6⟩ := hz 6 (by omega)
  obtain ⟨z7, hz7⟩ := hz 7 (by omega)
  obtain ⟨z8, hz8⟩ := hz 8 (by omega)
  obtain ⟨z9, hz9⟩ := hz 9 (by omega)
  clear hz
  clear hZ1 hZ2 hb2
  go_wp2
  obtain ⟨hbk, r0, r1, r2, r3, r4, r5, r6, r7, r8, r9⟩ := finP0 HZ2.out.1 HZ2.out.2 (.int .i64 nd.kind) (.int .i64 nd.no) (.string (txt nd.op)) (.string (txt nd.name)) (.string (txt nd.text)) (.string (txt nd.targets)) (.string (txt nd.pattern)) (.string (txt nd.inputs)) (.string (txt nd.order)) (.slice none 0 0)
  unfold doneN at hbk r0 r1 r2 r3 r4 r5 r6 r7 r8 r9
  exact bodyPost_ret (v := .tuple #[.agg (cellsN nd), .bool (eqL 0 s.data.toList).isSome]) (by simp [results, Tryd.results25, go_sem, r0, r1, r2, r3, r4, r5, r6, r7, r8, r9]) rfl ⟨nd, by rw [HY.out], fun n hn => hnd n (by rw [← HY.out]; exact hn), hbk⟩
end Go.Proofs.YtldddecaeloohaaDoor
