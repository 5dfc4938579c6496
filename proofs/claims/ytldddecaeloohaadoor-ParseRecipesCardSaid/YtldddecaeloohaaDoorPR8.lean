/-
  What the document's own odd, right, left and bare of chapter 8 answer, for every text. No condition.
-/
import Derived.Test.YtldddecaeloohaaDoorPRef
import Derived.Test.YtldddecaeloohaaDoorEJ
namespace Go.Proofs.YtldddecaeloohaaDoor
open Go.RowKit Go.Shelf

theorem strokes_snoc (u : BS) : strokes (u ++ [92]) = strokes u + 1 := by
  unfold strokes
  rw [List.reverse_append]
  simp [show strokeB 92 = true from rfl]
theorem take_last {s : ByteArray} {m : Nat} (h : m < s.size) : s.data.toList.take (m + 1) = s.data.toList.take m ++ [s[m]] := by
  have h' : m < s.data.toList.length := by rw [Array.length_toList]; exact h
  rw [List.take_succ_eq_append_getElem h', Array.getElem_toList]; rfl
theorem odd_of {l : BS} {n : Nat} (h : strokes l = n) : oddB l = decide (n % 2 = 1) := by unfold oddB; rw [h]

set_option maxRecDepth 100000 in
set_option maxHeartbeats 2000000 in
theorem odd8_any (s : ByteArray) (hs : s.size ≤ 100000000000) (w : World) : Calls Tryd.prog 28 #[.string s] w fun e w' => e = .returned (.bool (oddB s.data.toList)) ∧ w = w' := by
  go_enter Tryd.func28, Tryd.ntmps28
  go_wp2
  go_loop [3] (fun i => ∃ n : Nat, n ≤ s.size ∧ i = .int .i64 n ∧ strokes s.data.toList = n + strokes (s.data.toList.take (s.size - n))) (fun i => s.size - (intOf i).toNat)
  case atStart => exact ⟨0, Nat.zero_le _, rfl, by rw [Nat.sub_zero, ← size_list, List.take_length, Nat.zero_add]⟩
  case round =>
    obtain ⟨n, hn, rfl, hst⟩ := hrel
    by_cases hlt : n < s.size
    · have hb1 : s.size - 1 - n < s.size := by omega
      have hpos : (0 : Int) ≤ (s.size : Int) - 1 - (n : Int) := by omega
      have htk : s.data.toList.take (s.size - n) = s.data.toList.take (s.size - (n + 1)) ++ [s[s.size - 1 - n]] := by
        rw [show s.size - n = (s.size - 1 - n) + 1 by omega, take_last hb1, show s.size - (n + 1) = s.size - 1 - n by omega]
      by_cases hc : s[s.size - 1 - n].toNat = 92
      · have HN : Hid (strokes s.data.toList = (n + 1) + strokes (s.data.toList.take (s.size - (n + 1)))) := by
          have e : s[s.size - 1 - n] = 92 := UInt8.toNat_inj.1 (by rw [hc]; rfl)
          show _ = _
          rw [hst, htk, e, strokes_snoc]; omega
        have e1 : ((s[s.size - 1 - n].toNat : Int) == 92) = true := by simp; omega
        clear hst htk hc
        go_wp2
        go_round
        case rel => exact ⟨n + 1, hlt, by go_num, HN.out⟩
        case measure => simp [intOf]; omega
      · have HN : Hid (oddB s.data.toList = decide (n % 2 = 1)) := odd_of (by
          rw [hst, htk, strokes_none (fun c h => by
            rw [List.getLast?_concat] at h
            cases h
            intro e
            exact hc (by rw [e]; rfl))]; rfl)
        have e1 : ((s[s.size - 1 - n].toNat : Int) == 92) = false := by simp; omega
        have e2 : Int.tmod (n : Nat) 2 = ((n % 2 : Nat) : Int) := (Int.ofNat_tmod n 2).symm
        clear hst htk hc
        rcases Nat.mod_two_eq_zero_or_one n with hm | hm
        · rw [hm] at e2
          have HM := Lib.hid hm
          clear hm
          go_wp2
          go_ret
          exact ⟨by rw [HN.out, HM.out]; rfl, rfl⟩
        · rw [hm] at e2
          have HM := Lib.hid hm
          clear hm
          go_wp2
          go_ret
          exact ⟨by rw [HN.out, HM.out]; rfl, rfl⟩
    · have HN : Hid (oddB s.data.toList = decide (n % 2 = 1)) := odd_of (by
        rw [hst, show s.size - n = 0 by omega]; rfl)
      have e2 : Int.tmod (n : Nat) 2 = ((n % 2 : Nat) : Int) := (Int.ofNat_tmod n 2).symm
      clear hst
      rcases Nat.mod_two_eq_zero_or_one n with hm | hm
      · rw [hm] at e2
        have HM := Lib.hid hm
        clear hm
        go_wp2
        go_ret
        exact ⟨by rw [HN.out, HM.out]; rfl, rfl⟩
      · rw [hm] at e2
        have HM := Lib.hid hm
        clear hm
        go_wp2
        go_ret
        exact ⟨by rw [HN.out, HM.out]; rfl, rfl⟩

/-- A byte, held against both blanks. -/
theorem blank_ways (c : UInt8) : (blankB c = true ∧ ((c.toNat : Int) == 32) = true) ∨ (blankB c = true ∧ ((c.toNat : Int) == 32) = false ∧ ((c.toNat : Int) == 9) = true) ∨ (blankB c = false ∧ ((c.toNat : Int) == 32) = false ∧ ((c.toNat : Int) == 9) = false) := by
  by_cases h1 : c.toNat = 32
  · exact .inl ⟨by simp [blankB, h1], by simp; omega⟩
  · by_cases h2 : c.toNat = 9
    · exact .inr (.inl ⟨by simp [blankB, h2], by simp; omega, by simp; omega⟩)
    · exact .inr (.inr ⟨by simp [blankB, h1, h2], by simp; omega, by simp; omega⟩)

set_option maxRecDepth 100000 in
set_option maxHeartbeats 2000000 in
theorem right8_any (s : ByteArray) (hs : s.size ≤ 100000000000) (w : World) : Calls Tryd.prog 29 #[.string s] w fun e w' => e = .returned (.string (txt (cutR s.data.toList))) ∧ w = w' := by
  go_enter Tryd.func29, Tryd.ntmps29
  go_wp2
  go_loop [0] (fun v => ∃ y : ByteArray, v = .string y ∧ cutR y.data.toList = cutR s.data.toList ∧ y.size ≤ s.size) (fun v => strLen v)
  case atStart => exact ⟨s, rfl, rfl, Nat.le_refl _⟩
  case round =>
    obtain ⟨y, rfl, hy, hys⟩ := hrel
    have HY := Lib.hid hy
    clear hy
    by_cases hy0 : y.toList = []
    · have HD : Hid (txt (cutR s.data.toList) = y) := by
        show _ = _
        rw [Lib.toList_data] at hy0
        rw [← HY.out, hy0]
        rw [← txt_toList y, hy0]
        rfl
      go_wp2
      go_ret
      exact ⟨by rw [HD.out]; rfl, rfl⟩
    · have ey : y.toList.isEmpty = false := by simpa using hy0
      have hpos : 0 < y.size := by
        rw [← size_list]; rw [Lib.toList_data] at hy0; exact List.length_pos_iff.2 hy0
      have hpos' : (0 : Int) ≤ (y.size : Int) - 1 := by omega
      have hlast := list_last y hpos
      have hb1 : y.size - 1 < y.size := by omega
      have HN : Hid (blankB y[y.size - 1] = true → cutR (y.extract 0 (y.size - 1)).data.toList = cutR s.data.toList ∧ (y.extract 0 (y.size - 1)).size = y.size - 1) := by
        intro hbl
        refine ⟨?_, ?_⟩
        · rw [Lib.extract_data, List.drop_zero, Nat.sub_zero]
          have := HY.out
          rw [hlast, cutR_snoc, if_pos hbl] at this
          exact this
        · rw [ByteArray.size_extract]; omega
      rcases blank_ways y[y.size - 1] with ⟨hbl, e1⟩ | ⟨hbl, e1, e2⟩ | ⟨hbl, e1, e2⟩
      · have HM := Lib.hid (HN.out hbl)
        clear hbl hlast hy0 HN
        go_wp2
        go_round
        case rel => exact ⟨_, rfl, HM.out.1, by rw [HM.out.2]; omega⟩
        case measure => simp only [strLen]; rw [HM.out.2]; omega
      · have HM := Lib.hid (HN.out hbl)
        clear hbl hlast hy0 HN
        go_wp2
        go_round
        case rel => exact ⟨_, rfl, HM.out.1, by rw [HM.out.2]; omega⟩
        case measure => simp only [strLen]; rw [HM.out.2]; omega
      · have HD : Hid (txt (cutR s.data.toList) = y) := by
          show _ = _
          rw [← HY.out]
          conv => lhs; rw [hlast]
          rw [cutR_snoc, if_neg (by rw [hbl]; simp), ← hlast, txt_toList]
        clear hbl hlast hy0 HN
        go_wp2
        go_ret
        exact ⟨by rw [HD.out]; rfl, rfl⟩

set_option maxRecDepth 100000 in
set_option maxHeartbeats 2000000 in
theorem left8_any (s : ByteArray) (_hs : s.size ≤ 100000000000) (w : World) : Calls Tryd.prog 30 #[.string s] w fun e w' => e = .returned (.string (txt (cutL s.data.toList))) ∧ w = w' := by
  go_enter Tryd.func30, Tryd.ntmps30
  go_wp2
  go_loop [0] (fun v => ∃ y : ByteArray, v = .string y ∧ cutL y.data.toList = cutL s.data.toList ∧ y.size ≤ s.size) (fun v => strLen v)
  case atStart => exact ⟨s, rfl, rfl, Nat.le_refl _⟩
  case round =>
    obtain ⟨y, rfl, hy, hys⟩ := hrel
    have HY := Lib.hid hy
    clear hy
    by_cases hy0 : y.toList = []
    · have HD : Hid (txt (cutL s.data.toList) = y) := by
        show _ = _
        rw [Lib.toList_data] at hy0
        rw [← HY.out, hy0]
        rw [← txt_toList y, hy0]
        rfl
      go_wp2
      go_ret
      exact ⟨by rw [HD.out]; rfl, rfl⟩
    · have ey : y.toList.isEmpty = false := by simpa using hy0
      have hpos : 0 < y.size := by
        rw [← size_list]; rw [Lib.toList_data] at hy0; exact List.length_pos_iff.2 hy0
      have hcons := list_head y hpos
      have HN : Hid (blankB y[0] = true → cutL (y.extract 1 y.size).data.toList = cutL s.data.toList ∧ (y.extract 1 y.size).size = y.size - 1) := by
        intro hbl
        refine ⟨?_, ?_⟩
        · rw [Lib.extract_to_end, ← HY.out]
          conv => rhs; rw [hcons]
          rw [cutL_cons, if_pos hbl]
        · rw [ByteArray.size_extract]; omega
      rcases blank_ways y[0] with ⟨hbl, e1⟩ | ⟨hbl, e1, e2⟩ | ⟨hbl, e1, e2⟩
      · have HM := Lib.hid (HN.out hbl)
        clear hbl hcons hy0 HN
        go_wp2
        go_round
        case rel => exact ⟨_, rfl, HM.out.1, by rw [HM.out.2]; omega⟩
        case measure => simp only [strLen]; rw [HM.out.2]; omega
      · have HM := Lib.hid (HN.out hbl)
        clear hbl hcons hy0 HN
        go_wp2
        go_round
        case rel => exact ⟨_, rfl, HM.out.1, by rw [HM.out.2]; omega⟩
        case measure => simp only [strLen]; rw [HM.out.2]; omega
      · have HD : Hid (txt (cutL s.data.toList) = y) := by
          show _ = _
          rw [← HY.out]
          conv => lhs; rw [hcons]
          rw [cutL_cons, if_neg (by rw [hbl]; simp), ← hcons, txt_toList]
        clear hbl hcons hy0 HN
        go_wp2
        go_ret
        exact ⟨by rw [HD.out]; rfl, rfl⟩

theorem bare_take {l : BS} {k : Nat} (h : ∀ x ∈ l.take k, x ≠ 35) : (l[k]? = some 35 → bareL l = l.take k) ∧ (l.length ≤ k → bareL l = l) := by
  have hall : ∀ (u : BS), (∀ x ∈ u, x ≠ 35) → ∀ v, bareL (u ++ v) = u ++ bareL v := by
    intro u
    induction u with
    | nil => intro _ v; rfl
    | cons c r ih =>
      intro hu v
      rw [List.cons_append, bare_cons, if_neg (hu c (by simp)), ih (fun x hx => hu x (List.mem_cons_of_mem _ hx))]; rfl
  refine ⟨fun hk => ?_, fun hk => ?_⟩
  · have e : l = l.take k ++ 35 :: l.drop (k + 1) := by
      have hlt := (List.getElem?_eq_some_iff.1 hk)
      conv => lhs; rw [← List.take_append_drop k l, List.drop_eq_getElem_cons hlt.1, hlt.2]
    conv => lhs; rw [e]
    rw [hall _ h, bare_cons, if_pos rfl, List.append_nil]
  · rw [List.take_of_length_le hk] at h
    have := hall l h []
    simpa [bareL] using this

set_option maxRecDepth 100000 in
set_option maxHeartbeats 2000000 in
theorem bare8_any (s : ByteArray) (hs : s.size ≤ 100000000000) (w : World) : Calls Tryd.prog 31 #[.string s] w fun e w' => e = .returned (.string (txt (bareL s.data.toList))) ∧ w = w' := by
  go_enter Tryd.func31, Tryd.ntmps31
  go_wp2
  go_loop [3] (fun i => ∃ k : Nat, k ≤ s.size ∧ i = .int .i64 k ∧ ∀ x ∈ s.data.toList.take k, x ≠ 35) (fun i => s.size - (intOf i).toNat)
  case atStart => exact ⟨0, Nat.zero_le _, rfl, by simp⟩
  case round =>
    obtain ⟨k, hk, rfl, hcl⟩ := hrel
    have HC := Lib.hid hcl
    clear hcl
    by_cases hlt : k < s.size
    · have hge : s.data.toList[k]? = some s[k] := by
        rw [Array.getElem?_toList, Array.getElem?_eq_getElem (by exact hlt)]; rfl
      by_cases hc : s[k].toNat = 35
      · have HE : Hid (txt (bareL s.data.toList) = s.extract 0 k) := by
          show _ = _
          have e : s[k] = 35 := UInt8.toNat_inj.1 (by rw [hc]; rfl)
          rw [(bare_take HC.out).1 (by rw [hge, e]), extract_txt]; simp
        have e1 : ((s[k].toNat : Int) == 35) = true := by simp; omega
        clear hge hc
        go_wp2
        go_ret
        exact ⟨by rw [HE.out]; rfl, rfl⟩
      · have HE : Hid (∀ x ∈ s.data.toList.take (k + 1), x ≠ 35) := by
          intro x hx
          rw [take_last hlt] at hx
          rcases List.mem_append.1 hx with hx | hx
          · exact HC.out x hx
          · rw [List.mem_singleton.1 hx]
            intro e
            exact hc (by rw [e]; rfl)
        have e1 : ((s[k].toNat : Int) == 35) = false := by simp; omega
        clear hge hc
        go_wp2
        go_round
        case rel => exact ⟨k + 1, hlt, by go_num, HE.out⟩
        case measure => simp [intOf]; omega
    · have HE : Hid (txt (bareL s.data.toList) = s) := by
        show _ = _
        rw [(bare_take HC.out).2 (by rw [size_list]; omega), txt_toList]
      go_wp2
      go_ret
      exact ⟨by rw [HE.out]; rfl, rfl⟩
end Go.Proofs.YtldddecaeloohaaDoor
