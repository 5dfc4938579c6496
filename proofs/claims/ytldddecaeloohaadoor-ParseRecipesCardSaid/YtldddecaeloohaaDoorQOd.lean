/-
  What the program's assignOrRule answers. For every text of at most a million bytes. No condition.
-/
import Derived.Test.YtldddecaeloohaaDoorQOc
namespace Go.Proofs.YtldddecaeloohaaDoor
open Go.RowKit Go.Shelf
attribute [local go_sem] Oper.semAt_some

set_option maxRecDepth 100000 in
set_option maxHeartbeats 8000000 in
theorem assignOrRule_any (s : ByteArray) (hs : s.size ≤ 1000000) (w : World) : Calls Tryd.prog 47 #[.string s] w (OnePost (eqL 0 s.data.toList) w) := by
  have HC := Lib.hid (pcutFive s hs)
  have hl := cut_len signsL s.data.toList
  obtain ⟨k1, hk1⟩ : ∃ x, x = (cutOf signsL s.data.toList).1 := ⟨_, rfl⟩
  obtain ⟨k2, hk2⟩ : ∃ x, x = (cutOf signsL s.data.toList).2.1 := ⟨_, rfl⟩
  obtain ⟨k3, hk3⟩ : ∃ x, x = (cutOf signsL s.data.toList).2.2 := ⟨_, rfl⟩
  rw [← hk1, ← hk2, ← hk3] at HC
  rw [← hk1, ← hk3, size_list] at hl
  have HY : Hid (eqL 0 s.data.toList = if k2 = [] then none else if k2 = [58] then ruleL 0 k1 k3 else if nameB (trimOf k1) then some ⟨1, 0, k2, trimOf k1, trimOf k3, [], [], [], [], []⟩ else none) := by
    show _ = _
    unfold eqL
    simp only
    rw [← hk1, ← hk2, ← hk3]
  have e0 : txt [] = ⟨#[]⟩ := rfl
  have E0 := Lib.hid e0
  clear hk1 hk2 hk3 e0
  go_enter Tryd.func47, Tryd.ntmps47
  go_wp2_with fail
  have hZ : ZeroP w (w.alloc (.cells #[.int .i64 0, .int .i64 0, .string ⟨#[]⟩, .string ⟨#[]⟩, .string ⟨#[]⟩, .string ⟨#[]⟩, .string ⟨#[]⟩, .string ⟨#[]⟩, .string ⟨#[]⟩, .slice none 0 0] 49)) := ZeroP.start w
  have hsz : w.heap.size + 1 = (w.alloc (.cells #[.int .i64 0, .int .i64 0, .string ⟨#[]⟩, .string ⟨#[]⟩, .string ⟨#[]⟩, .string ⟨#[]⟩, .string ⟨#[]⟩, .string ⟨#[]⟩, .string ⟨#[]⟩, .slice none 0 0] 49)).heap.size := by simp
  generalize w.alloc (.cells #[.int .i64 0, .int .i64 0, .string ⟨#[]⟩, .string ⟨#[]⟩, .string ⟨#[]⟩, .string ⟨#[]⟩, .string ⟨#[]⟩, .string ⟨#[]⟩, .string ⟨#[]⟩, .slice none 0 0] 49) = w0 at hZ hsz ⊢
  refine (HC.out w0 _ hsz).mono ?_
  rintro e w1 ⟨rfl, hb1⟩
  have hZ1 := hZ.below hb1
  clear hZ hb1 HC hsz
  by_cases h0 : k2 = []
  · have HN : Hid (eqL 0 s.data.toList = none) := by show _ = _; rw [HY.out, if_pos h0]
    have eb : (txt k2).toList.isEmpty = true := by rw [txt_toL, h0]; rfl
    have HZ1 := Lib.hid hZ1
    obtain ⟨hz, fz⟩ := hZ1.cells
    obtain ⟨z0, hz0⟩ := hz 0 (by omega)
    obtain ⟨z1, hz1⟩ := hz 1 (by omega)
    obtain ⟨z2, hz2⟩ := hz 2 (by omega)
    obtain ⟨z3, hz3⟩ := hz 3 (by omega)
    obtain ⟨z4, hz4⟩ := hz 4 (by omega)
    obtain ⟨z5, hz5⟩ := hz 5 (by omega)
    obtain ⟨z6, hz6⟩ := hz 6 (by omega)
    obtain ⟨z7, hz7⟩ := hz 7 (by omega)
    obtain ⟨z8, hz8⟩ := hz 8 (by omega)
    obtain ⟨z9, hz9⟩ := hz 9 (by omega)
    clear hz
    clear h0 hZ1
    go_wp2
    obtain ⟨hbk, r0, r1, r2, r3, r4, r5, r6, r7, r8, r9⟩ := finP0 HZ1.out.1 HZ1.out.2 (.int .i64 0) (.int .i64 0) (.string ⟨#[]⟩) (.string ⟨#[]⟩) (.string ⟨#[]⟩) (.string ⟨#[]⟩) (.string ⟨#[]⟩) (.string ⟨#[]⟩) (.string ⟨#[]⟩) (.slice none 0 0)
    unfold doneN at hbk r0 r1 r2 r3 r4 r5 r6 r7 r8 r9
    exact bodyPost_ret (v := .tuple #[.agg (cellsN zeroN), .bool false]) (by simp [results, Tryd.results47, go_sem, zeroN, E0.out, r0, r1, r2, r3, r4, r5, r6, r7, r8, r9]) rfl ⟨zeroN, by rw [HN.out]; rfl, (fun n hn => by rw [HN.out] at hn; cases hn), hbk⟩
  have eb : (txt k2).toList.isEmpty = false := by rw [txt_toL]; simpa using h0
  by_cases h58 : k2 = [58]
  · have HN : Hid (eqL 0 s.data.toList = ruleL 0 k1 k3) := by show _ = _; rw [HY.out, if_neg h0, if_pos h58]
    have eq : ((txt k2).toList == [58]) = true := by rw [txt_toL, h58]; decide
    have HRl : Hid (∀ W, Calls Tryd.prog 62 #[.string (txt k1), .string (txt k3)] W (OnePost (ruleL 0 k1 k3) W)) := fun W => by
      have := rule_any (txt k1) (txt k3) (by rw [txt_size]; omega) (by rw [txt_size]; omega) W
      rwa [txt_data, txt_data] at this
    clear h0 h58
    go_wp2_with fail
    refine (HRl.out _).mono ?_
    rintro e w2 ⟨nd, rfl, hnd, hb2⟩
    have hZ2 := hZ1.below hb2
    have HZ2 := Lib.hid hZ2
    obtain ⟨hz, fz⟩ := hZ2.cells
    obtain ⟨z0, hz0⟩ := hz 0 (by omega)
    obtain ⟨z1, hz1⟩ := hz 1 (by omega)
    obtain ⟨z2, hz2⟩ := hz 2 (by omega)
    obtain ⟨z3, hz3⟩ := hz 3 (by omega)
    obtain ⟨z4, hz4⟩ := hz 4 (by omega)
    obtain ⟨z5, hz5⟩ := hz 5 (by omega)
    obtain ⟨z6, hz6⟩ := hz 6 (by omega)
    obtain ⟨z7, hz7⟩ := hz 7 (by omega)
    obtain ⟨z8, hz8⟩ := hz 8 (by omega)
    obtain ⟨z9, hz9⟩ := hz 9 (by omega)
    clear hz
    clear hZ1 hZ2 hb2
    go_wp2
    obtain ⟨hbk, r0, r1, r2, r3, r4, r5, r6, r7, r8, r9⟩ := finP0 HZ2.out.1 HZ2.out.2 (.int .i64 nd.kind) (.int .i64 nd.no) (.string (txt nd.op)) (.string (txt nd.name)) (.string (txt nd.text)) (.string (txt nd.targets)) (.string (txt nd.pattern)) (.string (txt nd.inputs)) (.string (txt nd.order)) (.slice none 0 0)
    unfold doneN at hbk r0 r1 r2 r3 r4 r5 r6 r7 r8 r9
    exact bodyPost_ret (v := .tuple #[.agg (cellsN nd), .bool (ruleL 0 k1 k3).isSome]) (by simp [results, Tryd.results47, go_sem, r0, r1, r2, r3, r4, r5, r6, r7, r8, r9]) rfl ⟨nd, by rw [HN.out], fun n hn => hnd n (by rw [← HN.out]; exact hn), hbk⟩
  have eq : ((txt k2).toList == [58]) = false := by rw [txt_toL]; exact beq_eq_false_iff_ne.2 h58
  obtain ⟨y1, hy1⟩ : ∃ x, x = trimOf k1 := ⟨_, rfl⟩
  obtain ⟨y3, hy3⟩ : ∃ x, x = trimOf k3 := ⟨_, rfl⟩
  have hyl : y1.length ≤ 1000000 := by
    have := trim_len k1
    rw [hy1]; omega
  have HT1 := Lib.hid (trimQ (txt k1) (by rw [txt_size]; omega))
  have HT3 := Lib.hid (trimQ (txt k3) (by rw [txt_size]; omega))
  rw [txt_data, ← hy1] at HT1
  rw [txt_data, ← hy3] at HT3
  have HNm : Hid (∀ W, Calls Tryd.prog 17 #[.string (txt y1)] W fun e w' => e = .returned (.bool (nameB y1)) ∧ W = w') := fun W => by
    have := name_any (txt y1) (by rw [txt_size]; unfold maxLen; omega) W
    rwa [txt_data] at this
  have HN : Hid (eqL 0 s.data.toList = if nameB y1 then some ⟨1, 0, k2, y1, y3, [], [], [], [], []⟩ else none) := by show _ = _; rw [HY.out, if_neg h0, if_neg h58, hy1, hy3]
  clear h0 h58 hy1 hy3
  generalize nameB y1 = nb at HNm HN
  have HP : Hid (∀ W, Below w.heap.size w W → OnePost (eqL 0 s.data.toList) w (.returned (.tuple #[.agg (cellsN ⟨1, 0, k2, y1, y3, [], [], [], [], []⟩), .bool nb])) W) := fun W hW => by
    refine ⟨⟨1, 0, k2, y1, y3, [], [], [], [], []⟩, by rw [HN.out]; cases nb <;> rfl, fun n hn => ?_, hW⟩
    rw [HN.out] at hn
    split at hn
    · cases hn; rfl
    · cases hn
  go_upto_region 8 with (first
    | (go_at_call 44; with_reducible refine (HT1.out _).mono ?_; rintro e w2 ⟨rfl, hb2⟩)
    | (go_at_call 44; with_reducible refine (HT3.out _).mono ?_; rintro e w3 ⟨rfl, hb3⟩))
  have hN := ((hZ1.below hb2).below hb3).own #[.int .i64 1, .int .i64 0, .string (txt k2), .string (txt y1), .string (txt y3), .string ⟨#[]⟩, .string ⟨#[]⟩, .string ⟨#[]⟩, .string ⟨#[]⟩, .slice none 0 0]
  clear hZ1 hb2 hb3
  generalize w3.alloc (.cells #[.int .i64 1, .int .i64 0, .string (txt k2), .string (txt y1), .string (txt y3), .string ⟨#[]⟩, .string ⟨#[]⟩, .string ⟨#[]⟩, .string ⟨#[]⟩, .slice none 0 0] 49) = W at hN ⊢
  generalize w3.heap.size = K at hN ⊢
  obtain ⟨⟨c0, c1, c2, c3, c4, c5, c6, c7, c8, c9⟩, fk⟩ := hN.cells
  obtain ⟨hz, fz⟩ := hN.zcells
  obtain ⟨z0, hz0⟩ := hz 0 (by omega)
  obtain ⟨z1, hz1⟩ := hz 1 (by omega)
  obtain ⟨z2, hz2⟩ := hz 2 (by omega)
  obtain ⟨z3, hz3⟩ := hz 3 (by omega)
  obtain ⟨z4, hz4⟩ := hz 4 (by omega)
  obtain ⟨z5, hz5⟩ := hz 5 (by omega)
  obtain ⟨z6, hz6⟩ := hz 6 (by omega)
  obtain ⟨z7, hz7⟩ := hz 7 (by omega)
  obtain ⟨z8, hz8⟩ := hz 8 (by omega)
  obtain ⟨z9, hz9⟩ := hz 9 (by omega)
  clear hz
  have HNN := Lib.hid hN
  clear hN HT1 HT3
  go_region_with (first | (go_at_call 17; refine (HNm.out _).mono ?_; rintro e w' ⟨rfl, rfl⟩))
  all_goals (
    go_wp2
    obtain ⟨hbk, r0, r1, r2, r3, r4, r5, r6, r7, r8, r9⟩ := HNN.out.finD (.int .i64 1) (.int .i64 0) (.string (txt k2)) (.string (txt y1)) (.string (txt y3)) (.string ⟨#[]⟩) (.string ⟨#[]⟩) (.string ⟨#[]⟩) (.string ⟨#[]⟩) (.slice none 0 0)
    unfold doneN at hbk r0 r1 r2 r3 r4 r5 r6 r7 r8 r9
    exact bodyPost_ret (v := .tuple #[.agg (cellsN ⟨1, 0, k2, y1, y3, [], [], [], [], []⟩), .bool nb]) (by simp [results, Tryd.results47, go_sem, E0.out, r0, r1, r2, r3, r4, r5, r6, r7, r8, r9]) rfl (HP.out _ hbk))
end Go.Proofs.YtldddecaeloohaaDoor
