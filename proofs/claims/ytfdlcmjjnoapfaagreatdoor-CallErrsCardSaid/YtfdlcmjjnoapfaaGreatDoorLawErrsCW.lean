/-
  CallErrs, the walk: it answers true for every name, number and text. No condition.
-/
import Derived.OwnWalkIn
import Derived.LoopIn
import Derived.LoopNIn
import Derived.WalkSpells
import Derived.Test.YtfdlcmjjnoapfaaGreatDoorNOf
import Derived.Test.YtfdlcmjjnoapfaaGreatDoorNWt
import Derived.Test.YtfdlcmjjnoapfaaGreatDoorNBd
namespace Go.Proofs.YtfdlcmjjnoapfaaGreatDoor
open Go.RowKit Go.Shelf
attribute [local go_sem] Oper.semAt_some

theorem beq_dec (a b : BT) : (a == b) = decide (a = b) := by
  by_cases h : a = b
  · subst h; simp
  · rw [decide_eq_false h, beq_eq_false_iff_ne]; exact h
theorem errs_word (N S : BT) (k : Nat) (hk : (k : Int) = manyOf N) (hw : N = nWord ∨ N = nWordlist) (hn : numB (trimOf S) = false) : (callT N (List.replicate k S)).2 = 1 := by
  rcases hw with rfl | rfl
  · rw [show manyOf nWord = 2 by decide] at hk
    obtain rfl : k = 2 := by omega
    unfold callT
    rw [if_neg (by decide), if_pos (by rw [List.length_replicate]; decide)]
    unfold ansT
    rw [if_neg (by decide), if_neg (by decide), if_neg (by decide), if_pos rfl, rep_get _ _ _ (by omega)]
    unfold wordT
    rw [if_neg (by rw [hn]; simp)]
    rfl
  · rw [show manyOf nWordlist = 3 by decide] at hk
    obtain rfl : k = 3 := by omega
    unfold callT
    rw [if_neg (by decide), if_pos (by rw [List.length_replicate]; decide)]
    unfold ansT
    rw [if_neg (by decide), if_neg (by decide), if_neg (by decide), if_neg (by decide), if_pos rfl, rep_get _ _ _ (by omega)]
    unfold wordT
    rw [if_neg (by rw [hn]; simp)]
    rfl
set_option maxRecDepth 100000 in
set_option maxHeartbeats 4000000 in
theorem callErrs_walk (s0 : ByteArray) (hs0 : s0.size ≤ maxLen) (i1 : Int) (hi1 : -9223372036854775808 ≤ i1 ∧ i1 ≤ 9223372036854775807) (s2 : ByteArray) (hs2 : s2.size ≤ maxLen) (w : World) (hst : Std w) :
    Calls Tryz.prog 10 #[.string s0, .int .i64 i1, .string s2] w (LawPost w) := by
  unfold maxLen at hs0 hs2
  have HS := Lib.hid hst
  have HSh := Lib.hid (shown_any w hst)
  clear hst
  by_cases a1 : 50 < s0.size
  · clear HS
    go_enter Tryz.func10, Tryz.ntmps10
    go_wp2_with fail
    refine HSh.out.mono ?_
    rintro e w1 ⟨rfl, hb1⟩
    go_wp2_with fail
    go_ret
    exact ⟨rfl, hb1⟩
  by_cases a2 : i1 < 0
  · clear HS
    go_enter Tryz.func10, Tryz.ntmps10
    go_wp2_with fail
    refine HSh.out.mono ?_
    rintro e w1 ⟨rfl, hb1⟩
    go_wp2_with fail
    go_ret
    exact ⟨rfl, hb1⟩
  by_cases a3 : 6 < i1
  · clear HS
    go_enter Tryz.func10, Tryz.ntmps10
    go_wp2_with fail
    refine HSh.out.mono ?_
    rintro e w1 ⟨rfl, hb1⟩
    go_wp2_with fail
    go_ret
    exact ⟨rfl, hb1⟩
  by_cases a4 : 50 < s2.size
  · clear HS
    go_enter Tryz.func10, Tryz.ntmps10
    go_wp2_with fail
    refine HSh.out.mono ?_
    rintro e w1 ⟨rfl, hb1⟩
    go_wp2_with fail
    go_ret
    exact ⟨rfl, hb1⟩
  obtain ⟨m, rfl⟩ : ∃ m : Nat, i1 = (m : Int) := ⟨i1.toNat, by omega⟩
  have hm6 : m ≤ 6 := by omega
  have HX := Lib.hid (txt_toList s2)
  have HZ : Hid (s2.data.toList.length ≤ 50) := by
    show _ ≤ _
    rw [size_list]
    omega
  clear a2 a3 hi1
  go_enter Tryz.func10, Tryz.ntmps10
  go_wp2_with fail
  refine HSh.out.mono ?_
  rintro e w1 ⟨rfl, hb1⟩
  have HS1 := Lib.hid (HS.out.below hb1)
  go_wp2_with fail
  go_loopw [8, 9] (fun lv i wr => ∃ k : Nat, k ≤ m ∧ i = .int .i64 k ∧ RowS w wr lv (List.replicate k s2.data.toList)) (fun _ i _ => m - (intOf i).toNat)
  case atStart => exact ⟨0, Nat.zero_le _, rfl, RowS.start hb1⟩
  case round =>
    obtain ⟨k, hk, rfl, hR0⟩ := hrel
    obtain ⟨qo, qc, rfl, hR⟩ := hR0.slice
    rw [List.length_replicate] at hR ⊢
    clear hR0
    by_cases hlt : k < m
    · obtain ⟨po, pc, w3, hrun, hR3⟩ := hR.push s2.data.toList (by rw [List.length_replicate]; omega) 22
      rw [HX.out] at hrun
      rw [List.length_replicate] at hrun hR3
      have e1 : List.replicate k s2.data.toList ++ [s2.data.toList] = List.replicate (k + 1) s2.data.toList := by rw [List.replicate_succ']
      rw [e1] at hR3
      have HR3 := Lib.hid hR3
      clear hR3 hR e1
      go_wp2_with (first
        | (at_builtin; refine wpList_append_eq rfl _ _ 22 rfl _ _ _ w3 rfl rfl hrun ?_)
        | go_in)
      go_roundw
      case rel => exact ⟨k + 1, hlt, by go_num, HR3.out⟩
      case measure => simp [intOf]; omega
    · obtain rfl : k = m := by omega
      have hbw := hR.2
      have HS2 := Lib.hid (HS.out.below hbw)
      have HC := Lib.hid (call_any s0 _ _ (fun y hy => by
        obtain ⟨z, hz, rfl⟩ := List.mem_map.1 hy
        obtain rfl := List.eq_of_mem_replicate hz
        rw [txt_size]
        have := HZ.out
        omega) wr HS2.out hR.reads)
      have eM : ((List.replicate k s2.data.toList).map txt).map (fun x => x.data.toList) = List.replicate k s2.data.toList := by
        rw [List.map_map, List.map_replicate]
        simp only [Function.comp, txt_data]
      rw [eM] at HC
      have HM := Lib.hid (many_any s0)
      have HT := Lib.hid (fun W => trim_any s2 (by unfold maxLen; omega) W)
      have HN : Hid (∀ W, Calls Tryz.prog 22 #[.string (txt (trimOf s2.data.toList))] W fun e w' => e = .returned (.tuple #[.int .i64 (numV (trimOf s2.data.toList)), .bool (numB (trimOf s2.data.toList))]) ∧ W = w') := fun W => by
        have h9 := trim_len s2.data.toList
        rw [size_list] at h9
        have := number_any (txt (trimOf s2.data.toList)) (by rw [txt_size]; unfold maxLen; omega) W
        unfold NumPost at this
        rw [txt_data] at this
        exact this
      have hwz := hbw.size
      have HBW := Lib.hid hbw
      have q0 : (s0.toList == [119, 111, 114, 100]) = decide (s0.data.toList = nWord) := by rw [Lib.toList_data]; exact beq_dec _ _
      have q1 : (s0.toList == [119, 111, 114, 100, 108, 105, 115, 116]) = decide (s0.data.toList = nWordlist) := by rw [Lib.toList_data]; exact beq_dec _ _
      have E0 : Hid (manyOf s0.data.toList = 0 → callT s0.data.toList (List.replicate k s2.data.toList) = ([], 4)) := fun h => by unfold callT; rw [if_pos h]
      have E1 : Hid (manyOf s0.data.toList ≠ 0 → (k : Int) ≠ manyOf s0.data.toList → callT s0.data.toList (List.replicate k s2.data.toList) = ([], 1)) := fun h h' => by unfold callT; rw [if_neg h, if_neg (by rw [List.length_replicate]; exact h')]
      have E2 : Hid ((k : Int) = manyOf s0.data.toList → (s0.data.toList = nWord ∨ s0.data.toList = nWordlist) → numB (trimOf s2.data.toList) = false → (callT s0.data.toList (List.replicate k s2.data.toList)).2 = 1) := fun h h' h9 => errs_word _ _ _ h h' h9
      have E3 : Hid ((k : Int) = manyOf s0.data.toList → manyOf s0.data.toList ≠ 0 → s0.data.toList ≠ nWord → s0.data.toList ≠ nWordlist → (callT s0.data.toList (List.replicate k s2.data.toList)).2 = 0) := fun h h0 h1 h2 => errs_ok _ _ _ h h0 HZ.out h1 h2
      clear hR hbw HX HZ HS HS1 HS2
      unfold CallPost at HC
      generalize (callT s0.data.toList (List.replicate k s2.data.toList)) = R at HC E0 E1 E2 E3
      obtain ⟨r1, r2⟩ := R
      simp only at HC E0 E1 E2 E3
      generalize numB (trimOf s2.data.toList) = nb at HN E2
      generalize numV (trimOf s2.data.toList) = nv at HN
      generalize manyOf s0.data.toList = mv at HM E0 E1 E2 E3
      go_wp2_with fail
      refine (HM.out wr).mono ?_
      rintro e _ ⟨rfl, rfl⟩
      go_wp2_with fail
      refine HC.out.mono ?_
      rintro e w4 ⟨rfl, hb4⟩
      go_wp2_with fail
      refine (HT.out w4).mono ?_
      rintro e w5 ⟨rfl, hb5⟩
      go_wp2_with fail
      refine (HN.out w5).mono ?_
      rintro e _ ⟨rfl, rfl⟩
      have HB : Hid (Below w.heap.size w w5) := (HBW.out.trans (hb4.mono hwz)).trans (hb5.mono (by have := hb4.size; omega))
      clear HBW hb4 hb5
      have ht0 : (txt ([] : BT)).toList = [] := by rw [txt_toL]
      by_cases c0 : mv = 0
      · have h9 := E0.out c0
        cases h9
        subst c0
        clear E0 E1 E2 E3 q0 q1
        go_wp2_with fail
        go_ret
        exact ⟨rfl, HB.out⟩
      have f0 : (mv == 0) = false := by rw [beq_eq_false_iff_ne]; exact c0
      by_cases c1 : (k : Int) = mv
      · subst c1
        by_cases cw : s0.data.toList = nWord
        · rw [cw] at q0
          have q0' : (s0.toList == [119, 111, 114, 100]) = true := by rw [q0]; rfl
          cases nb with
          | true =>
            clear E0 E1 E2 E3 q0 q1 cw
            go_wp2_with fail
            go_ret
            exact ⟨rfl, HB.out⟩
          | false =>
            have h9 := E2.out rfl (.inl cw) rfl
            subst h9
            clear E0 E1 E2 E3 q0 q1 cw
            go_wp2_with fail
            go_ret
            exact ⟨rfl, HB.out⟩
        by_cases cl : s0.data.toList = nWordlist
        · have q0' : (s0.toList == [119, 111, 114, 100]) = false := by rw [q0]; exact decide_eq_false cw
          have q1' : (s0.toList == [119, 111, 114, 100, 108, 105, 115, 116]) = true := by rw [q1]; exact decide_eq_true cl
          cases nb with
          | true =>
            clear E0 E1 E2 E3 q0 q1 cw cl
            go_wp2_with fail
            go_ret
            exact ⟨rfl, HB.out⟩
          | false =>
            have h9 := E2.out rfl (.inr cl) rfl
            subst h9
            clear E0 E1 E2 E3 q0 q1 cw cl
            go_wp2_with fail
            go_ret
            exact ⟨rfl, HB.out⟩
        have q0' : (s0.toList == [119, 111, 114, 100]) = false := by rw [q0]; exact decide_eq_false cw
        have q1' : (s0.toList == [119, 111, 114, 100, 108, 105, 115, 116]) = false := by rw [q1]; exact decide_eq_false cl
        have h9 := E3.out rfl c0 cw cl
        subst h9
        clear E0 E1 E2 E3 q0 q1 cw cl
        go_wp2_with fail
        go_ret
        exact ⟨rfl, HB.out⟩
      · have h9 := E1.out c0 c1
        cases h9
        have f1 : ((k : Int) != mv) = true := by rw [bne_iff_ne]; exact c1
        clear E0 E1 E2 E3 q0 q1
        go_wp2_with fail
        go_ret
        exact ⟨rfl, HB.out⟩
end Go.Proofs.YtfdlcmjjnoapfaaGreatDoor
