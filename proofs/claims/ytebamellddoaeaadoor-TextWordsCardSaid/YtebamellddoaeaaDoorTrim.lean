/-
  What text.Trim and the document's own Trim answer, for every text: the text without the blanks that it begins and ends with.
-/
import Derived.Shelf.Strings.SlTrimAscii
import Derived.Lib.IndexBytes
import Derived.Test.YtebamellddoaeaaDoorText
namespace Go.Proofs.YtebamellddoaeaaDoor
open Go.Shelf Go.RowKit
def lays160_ren : Go.Shelf.Ren := ⟨fun | 160 => 24 | 232 => 36 | 231 => 35 | 227 => 37 | 234 => 39 | 233 => 38 | 236 => 41 | 235 => 40 | 228 => 47 | 271 => 50 | 151 => 49 | 197 => 48 | 120 => 56 | 152 => 55 | 260 => 54 | 137 => 45 | 119 => 58 | 224 => 59 | 225 => 60 | 217 => 52 | 266 => 57 | n => n, fun | 9 => 9 | 4 => 4 | 3 => 3 | 5 => 5 | 117 => 55 | 116 => 54 | 0 => 0 | 124 => 58 | 21 => 21 | 105 => 61 | 46 => 47 | 119 => 68 | 139 => 71 | 138 => 70 | n => n, fun | 3 => 1 | 4 => 2 | n => n⟩
theorem lays160 : Go.Proofs.Lays.n160 Tryd.prog lays160_ren := {
  mixed := by kernel_rfl
  f119 := Tryd.func58.trans (congrArg some (by kernel_rfl))
  f120 := Tryd.func56.trans (congrArg some (by kernel_rfl))
  f137 := Tryd.func45.trans (congrArg some (by kernel_rfl))
  f151 := Tryd.func49.trans (congrArg some (by kernel_rfl))
  f152 := Tryd.func55.trans (congrArg some (by kernel_rfl))
  f160 := Tryd.func24.trans (congrArg some (by kernel_rfl))
  f197 := Tryd.func48.trans (congrArg some (by kernel_rfl))
  f217 := Tryd.func52.trans (congrArg some (by kernel_rfl))
  f224 := Tryd.func59.trans (congrArg some (by kernel_rfl))
  f225 := Tryd.func60.trans (congrArg some (by kernel_rfl))
  f227 := Tryd.func37.trans (congrArg some (by kernel_rfl))
  f228 := Tryd.func47.trans (congrArg some (by kernel_rfl))
  f231 := Tryd.func35.trans (congrArg some (by kernel_rfl))
  f232 := Tryd.func36.trans (congrArg some (by kernel_rfl))
  f233 := Tryd.func38.trans (congrArg some (by kernel_rfl))
  f234 := Tryd.func39.trans (congrArg some (by kernel_rfl))
  f235 := Tryd.func40.trans (congrArg some (by kernel_rfl))
  f236 := Tryd.func41.trans (congrArg some (by kernel_rfl))
  f260 := Tryd.func54.trans (congrArg some (by kernel_rfl))
  f266 := Tryd.func57.trans (congrArg some (by kernel_rfl))
  f271 := Tryd.func50.trans (congrArg some (by kernel_rfl))
  t0 := Tryd.underlying0
  a0 := Tryd.isAgg0
  z0 := Tryd.sizeOf0
  v0 := Tryd.zeroValue0
  t3 := Tryd.underlying3
  a3 := Tryd.isAgg3
  z3 := Tryd.sizeOf3
  v3 := Tryd.zeroValue3
  t4 := Tryd.underlying4
  a4 := Tryd.isAgg4
  z4 := Tryd.sizeOf4
  v4 := Tryd.zeroValue4
  t5 := Tryd.underlying5
  a5 := Tryd.isAgg5
  z5 := Tryd.sizeOf5
  v5 := Tryd.zeroValue5
  t9 := Tryd.underlying9
  a9 := Tryd.isAgg9
  z9 := Tryd.sizeOf9
  v9 := Tryd.zeroValue9
  t21 := Tryd.underlying21
  a21 := Tryd.isAgg21
  z21 := Tryd.sizeOf21
  v21 := Tryd.zeroValue21
  t46 := Tryd.underlying47
  a46 := Tryd.isAgg47
  z46 := Tryd.sizeOf47
  v46 := Tryd.zeroValue47
  t105 := Tryd.underlying61
  a105 := Tryd.isAgg61
  z105 := Tryd.sizeOf61
  v105 := Tryd.zeroValue61
  t116 := Tryd.underlying54
  a116 := Tryd.isAgg54
  z116 := Tryd.sizeOf54
  t117 := Tryd.underlying55
  a117 := Tryd.isAgg55
  z117 := Tryd.sizeOf55
  v117 := Tryd.zeroValue55
  t119 := Tryd.underlying68
  a119 := Tryd.isAgg68
  z119 := Tryd.sizeOf68
  t124 := Tryd.underlying58
  a124 := Tryd.isAgg58
  z124 := Tryd.sizeOf58
  v124 := Tryd.zeroValue58
  t138 := Tryd.underlying70
  a138 := Tryd.isAgg70
  z138 := Tryd.sizeOf70
  v138 := Tryd.zeroValue70
  t139 := Tryd.underlying71
  a139 := Tryd.isAgg71
  z139 := Tryd.sizeOf71
  v139 := Tryd.zeroValue71
  g3 := by kernel_rfl
  g4 := by kernel_rfl }

def cutL (l : List UInt8) : List UInt8 := l.dropWhile blankB
def cutR (l : List UInt8) : List UInt8 := (l.reverse.dropWhile blankB).reverse
def trimOf (l : List UInt8) : List UInt8 := cutR (cutL l)

theorem cutR_cons (c : UInt8) (r : List UInt8) : cutR (c :: r) = if cutR r = [] then (if blankB c then [] else [c]) else c :: cutR r := by
  unfold cutR
  rw [List.reverse_cons, List.dropWhile_append]
  by_cases h : r.reverse.dropWhile blankB = []
  · rw [h]
    by_cases hc : blankB c = true <;> simp [List.dropWhile, hc]
  · have h1 : (r.reverse.dropWhile blankB).isEmpty = false := by simpa using h
    rw [h1]
    simp [h]
theorem cut_swap (l : List UInt8) : cutL (cutR l) = cutR (cutL l) := by
  induction l with
  | nil => rfl
  | cons c r ih =>
    by_cases hc : blankB c = true
    · have e1 : cutL (c :: r) = cutL r := by simp [cutL, List.dropWhile, hc]
      rw [e1, ← ih, cutR_cons]
      by_cases h : cutR r = []
      · rw [if_pos h, if_pos hc, h]
      · rw [if_neg h]; simp [cutL, List.dropWhile, hc]
    · have hc' : blankB c = false := by simpa using hc
      have e1 : cutL (c :: r) = c :: r := by simp [cutL, List.dropWhile, hc']
      rw [e1, cutR_cons]
      by_cases h : cutR r = []
      · rw [if_pos h, if_neg hc]; simp [cutL, List.dropWhile, hc']
      · rw [if_neg h]; simp [cutL, List.dropWhile, hc']
theorem contains_blank (c : UInt8) : ([32, 9] : List UInt8).contains c = blankB c := by
  by_cases h1 : c = 32
  · subst h1; rfl
  · by_cases h2 : c = 9
    · subst h2; rfl
    · have e1 : c.toNat ≠ 32 := fun h => h1 (UInt8.toNat_inj.1 (by rw [h]; rfl))
      have e2 : c.toNat ≠ 9 := fun h => h2 (UInt8.toNat_inj.1 (by rw [h]; rfl))
      simp [blankB, h1, h2, e1, e2]
theorem trimS_is (l : List UInt8) : Lib.trimS l [32, 9] = trimOf l := by
  have e : (fun c => ([32, 9] : List UInt8).contains c) = blankB := funext contains_blank
  unfold trimOf
  rw [← cut_swap]
  unfold Lib.trimS Lib.trimLeftS Lib.trimRightS cutL cutR
  rw [e]

theorem libTrim_any (s : ByteArray) (hs : s.size ≤ 9223372036854775807) (w : World) : Calls Tryd.prog 24 #[.string s, .string ⟨#[32, 9]⟩] w fun e w' => e = .returned (.string (txt (trimOf s.data.toList))) ∧ Below w.heap.size w w' := by
  have := Any.strings_Trim_laid lays160 (by kernel_rfl) s ⟨#[32, 9]⟩ w hs (by decide) (ascii_of_all (by decide))
  rw [show (ByteArray.mk #[32, 9]).data.toList = [32, 9] from rfl, trimS_is] at this
  exact this

set_option maxHeartbeats 400000 in
theorem trim_any (s : ByteArray) (hs : s.size ≤ maxLen) (w : World) : Calls Tryd.prog 14 #[.string s] w fun e w' => e = .returned (.string (txt (trimOf s.data.toList))) ∧ Below w.heap.size w w' := by
  unfold maxLen at hs
  go_enter Tryd.func14, Tryd.ntmps14
  go_wp2_with fail
  refine (libTrim_any s (by omega) w).mono ?_
  rintro e w1 ⟨rfl, hb⟩
  go_wp2_with fail
  go_ret
  exact ⟨rfl, hb⟩

set_option maxHeartbeats 400000 in
theorem refBlank_any (c : UInt8) (w : World) : Calls Tryd.prog 22 #[.int .u8 (c.toNat : Int)] w fun e w' => e = .returned (.bool (blankB c)) ∧ w = w' := by
  by_cases h1 : c.toNat = 32
  · have e1 : ((c.toNat : Int) == 32) = true := by simp; omega
    have H := Lib.hid h1; clear h1
    go_enter Tryd.func22, Tryd.ntmps22
    go_wp2
    go_ret
    exact ⟨ret_bool (by simp [blankB, H.out]), rfl⟩
  · have e1 : ((c.toNat : Int) == 32) = false := by simp; omega
    have H := Lib.hid h1; clear h1
    go_enter Tryd.func22, Tryd.ntmps22
    go_wp2
    go_ret
    exact ⟨ret_bool (by simp [blankB, H.out]; exact nat_beq c.toNat 9), rfl⟩
theorem refBlank_t (c : UInt8) (w : World) (h : blankB c = true) : Calls Tryd.prog 22 #[.int .u8 (c.toNat : Int)] w fun e w' => e = .returned (.bool true) ∧ w = w' := by
  have := refBlank_any c w; rwa [h] at this
theorem refBlank_f (c : UInt8) (w : World) (h : blankB c = false) : Calls Tryd.prog 22 #[.int .u8 (c.toNat : Int)] w fun e w' => e = .returned (.bool false) ∧ w = w' := by
  have := refBlank_any c w; rwa [h] at this

theorem list_head (s : ByteArray) (h : 0 < s.size) : s.data.toList = s[0] :: s.data.toList.drop 1 := by
  have h' : 0 < s.data.toList.length := by rw [Array.length_toList]; exact h
  have := List.drop_eq_getElem_cons h'
  rw [List.drop_zero, Array.getElem_toList] at this
  exact this
theorem list_last (s : ByteArray) (h : 0 < s.size) : s.data.toList = s.data.toList.take (s.size - 1) ++ [s[s.size - 1]] := by
  have h' : s.size - 1 < s.data.toList.length := by rw [Array.length_toList]; show s.size - 1 < s.size; omega
  have := List.take_succ_eq_append_getElem h'
  rw [show s.size - 1 + 1 = s.size by omega, Array.getElem_toList, List.take_of_length_le (by rw [Array.length_toList]; exact Nat.le_refl _)] at this
  exact this
theorem cutR_snoc (l : List UInt8) (c : UInt8) : cutR (l ++ [c]) = if blankB c then cutR l else l ++ [c] := by
  unfold cutR
  rw [List.reverse_append]
  by_cases h : blankB c = true
  · simp [h]
  · have h' : blankB c = false := by simpa using h
    simp [h']

def strLen : Value → Nat
  | .string s => s.size
  | _ => 0

set_option maxRecDepth 100000 in
set_option maxHeartbeats 2000000 in
theorem refTrim_any (s : ByteArray) (hs : s.size ≤ maxLen) (w : World) : Calls Tryd.prog 15 #[.string s] w fun e w' => e = .returned (.string (txt (trimOf s.data.toList))) ∧ w = w' := by
  unfold maxLen at hs
  go_enter Tryd.func15, Tryd.ntmps15
  go_wp2
  go_loop [0] (fun v => ∃ x : ByteArray, v = .string x ∧ cutL x.data.toList = cutL s.data.toList ∧ x.size ≤ s.size) (fun v => strLen v)
  case atStart => exact ⟨s, rfl, rfl, Nat.le_refl _⟩
  case round =>
    obtain ⟨x, rfl, hx, hxs⟩ := hrel
    have HX := Lib.hid hx
    clear hx
    by_cases hx0 : x.toList = []
    · have HE : Hid (x.data.toList = cutL s.data.toList) := by
        show _ = _
        rw [Lib.toList_data] at hx0
        rw [← HX.out, hx0]; rfl
      go_wp2
      go_loop [0] (fun v => ∃ y : ByteArray, v = .string y ∧ cutR y.data.toList = trimOf s.data.toList ∧ y.size ≤ s.size) (fun v => strLen v)
      case atStart => exact ⟨x, rfl, by rw [HE.out]; rfl, hxs⟩
      case round =>
        obtain ⟨y, rfl, hy, hys⟩ := hrel
        have HY := Lib.hid hy
        clear hy
        by_cases hy0 : y.toList = []
        · have HD : Hid (txt (trimOf s.data.toList) = y) := by
            show _ = _
            rw [Lib.toList_data] at hy0
            rw [← HY.out, hy0]
            rw [← txt_toList y, hy0]
            rfl
          go_wp2
          go_ret
          exact ⟨by rw [HD.out]; rfl, rfl⟩
        · have ey : y.toList.isEmpty = false := by simpa using hy0
          have hpos : 0 < y.size := by
            rw [← size_list]; rw [Lib.toList_data] at hy0; exact List.length_pos_iff.2 hy0
          have hpos' : (0 : Int) ≤ (y.size : Int) - 1 := by omega
          have hlast := list_last y hpos
          have hb1 : y.size - 1 < y.size := by omega
          have hcast : (y.size : Int) - 1 = ((y.size - 1 : Nat) : Int) := by omega
          cases hbl : blankB y[y.size - 1] with
          | true =>
            have HN : Hid (cutR (y.extract 0 (y.size - 1)).data.toList = trimOf s.data.toList ∧ (y.extract 0 (y.size - 1)).size = y.size - 1) := by
              refine ⟨?_, ?_⟩
              · rw [Lib.extract_data, List.drop_zero, Nat.sub_zero]
                have := HY.out
                rw [hlast, cutR_snoc, if_pos hbl] at this
                exact this
              · rw [ByteArray.size_extract]; omega
            have HB := Lib.hid hbl
            clear hbl hlast hy0 hcast
            go_wp2_with (go_at_call 22; refine (refBlank_t _ _ HB.out).mono ?_; rintro e w' ⟨rfl, rfl⟩)
            go_round
            case rel => exact ⟨_, rfl, HN.out.1, by rw [HN.out.2]; omega⟩
            case measure => simp only [strLen]; rw [HN.out.2]; omega
          | false =>
            have HD : Hid (txt (trimOf s.data.toList) = y) := by
              show _ = _
              rw [← HY.out]
              conv => lhs; rw [hlast]
              rw [cutR_snoc, if_neg (by rw [hbl]; simp), ← hlast, txt_toList]
            have HB := Lib.hid hbl
            clear hbl hlast hy0 hcast
            go_wp2_with (go_at_call 22; refine (refBlank_f _ _ HB.out).mono ?_; rintro e w' ⟨rfl, rfl⟩)
            go_ret
            exact ⟨by rw [HD.out]; rfl, rfl⟩

    · have ex : x.toList.isEmpty = false := by simpa using hx0
      have hpos : 0 < x.size := by
        rw [← size_list]; rw [Lib.toList_data] at hx0; exact List.length_pos_iff.2 hx0
      have hcons := list_head x hpos
      cases hbl : blankB x[0] with
      | true =>
        have HN : Hid (cutL (x.extract 1 x.size).data.toList = cutL s.data.toList ∧ (x.extract 1 x.size).size = x.size - 1) := by
          refine ⟨?_, ?_⟩
          · rw [Lib.extract_to_end, ← HX.out]
            conv => rhs; rw [hcons]
            simp [cutL, List.dropWhile, hbl]
          · rw [ByteArray.size_extract]; omega
        have HB := Lib.hid hbl
        clear hbl hcons hx0
        go_wp2_with (go_at_call 22; refine (refBlank_t _ _ HB.out).mono ?_; rintro e w' ⟨rfl, rfl⟩)
        go_round
        case rel => exact ⟨_, rfl, HN.out.1, by rw [HN.out.2]; omega⟩
        case measure => simp only [strLen]; rw [HN.out.2]; omega
      | false =>
        have HE : Hid (x.data.toList = cutL s.data.toList) := by
          show _ = _
          rw [← HX.out]
          conv => rhs; rw [hcons]
          simp only [cutL, List.dropWhile, hbl]
          exact hcons
        have HB := Lib.hid hbl
        clear hbl hcons hx0
        go_wp2_with (go_at_call 22; refine (refBlank_f _ _ HB.out).mono ?_; rintro e w' ⟨rfl, rfl⟩)
        go_loop [0] (fun v => ∃ y : ByteArray, v = .string y ∧ cutR y.data.toList = trimOf s.data.toList ∧ y.size ≤ s.size) (fun v => strLen v)
        case atStart => exact ⟨x, rfl, by rw [HE.out]; rfl, hxs⟩
        case round =>
          obtain ⟨y, rfl, hy, hys⟩ := hrel
          have HY := Lib.hid hy
          clear hy
          by_cases hy0 : y.toList = []
          · have HD : Hid (txt (trimOf s.data.toList) = y) := by
              show _ = _
              rw [Lib.toList_data] at hy0
              rw [← HY.out, hy0]
              rw [← txt_toList y, hy0]
              rfl
            go_wp2
            go_ret
            exact ⟨by rw [HD.out]; rfl, rfl⟩
          · have ey : y.toList.isEmpty = false := by simpa using hy0
            have hpos : 0 < y.size := by
              rw [← size_list]; rw [Lib.toList_data] at hy0; exact List.length_pos_iff.2 hy0
            have hpos' : (0 : Int) ≤ (y.size : Int) - 1 := by omega
            have hlast := list_last y hpos
            have hb1 : y.size - 1 < y.size := by omega
            have hcast : (y.size : Int) - 1 = ((y.size - 1 : Nat) : Int) := by omega
            cases hbl : blankB y[y.size - 1] with
            | true =>
              have HN : Hid (cutR (y.extract 0 (y.size - 1)).data.toList = trimOf s.data.toList ∧ (y.extract 0 (y.size - 1)).size = y.size - 1) := by
                refine ⟨?_, ?_⟩
                · rw [Lib.extract_data, List.drop_zero, Nat.sub_zero]
                  have := HY.out
                  rw [hlast, cutR_snoc, if_pos hbl] at this
                  exact this
                · rw [ByteArray.size_extract]; omega
              have HB := Lib.hid hbl
              clear hbl hlast hy0 hcast
              go_wp2_with (go_at_call 22; refine (refBlank_t _ _ HB.out).mono ?_; rintro e w' ⟨rfl, rfl⟩)
              go_round
              case rel => exact ⟨_, rfl, HN.out.1, by rw [HN.out.2]; omega⟩
              case measure => simp only [strLen]; rw [HN.out.2]; omega
            | false =>
              have HD : Hid (txt (trimOf s.data.toList) = y) := by
                show _ = _
                rw [← HY.out]
                conv => lhs; rw [hlast]
                rw [cutR_snoc, if_neg (by rw [hbl]; simp), ← hlast, txt_toList]
              have HB := Lib.hid hbl
              clear hbl hlast hy0 hcast
              go_wp2_with (go_at_call 22; refine (refBlank_f _ _ HB.out).mono ?_; rintro e w' ⟨rfl, rfl⟩)
              go_ret
              exact ⟨by rw [HD.out]; rfl, rfl⟩


end Go.Proofs.YtebamellddoaeaaDoor
